"""Locks, which some settings meet; whether pulls can open them, and shares that show that none can."""

from dialvault.errors import NoLock, TooMany
from dialvault.papers import Bar, Paper, Way
from dialvault.rungs import bring
from dialvault.vault import Vault, is_within, need_setting, nought
from dialvault.wholes import is_row, is_whole, rest_sum

MOST_LOCKS = 6
LEAST_NUMBER = 2
MOST_NUMBER = 360


class Lock:
    def __init__(self, factors, number, rest):
        self.factors = list(factors) if isinstance(factors, list) else factors
        self.number = number
        self.rest = rest


def is_fit(vault, thing):
    sizes = vault.sizes()
    if not isinstance(thing, Lock) or not is_row(thing.factors, len(sizes)):
        return False
    if not is_within(thing.number, LEAST_NUMBER, MOST_NUMBER) or not is_whole(thing.rest):
        return False
    return all([factor * size % thing.number == 0 for factor, size in zip(thing.factors, sizes)])


def need_locks(vault, setting, locks):
    need_setting(vault, setting)
    if len(locks) > MOST_LOCKS:
        raise TooMany("there are at most six locks")
    for place, lock in enumerate(locks):
        if not is_fit(vault, lock):
            raise NoLock(place)


def turns_of(locks, setting):
    return tuple([rest_sum(lock.factors, setting, lock.number) for lock in locks])


def wants_of(locks, setting):
    turns = turns_of(locks, setting)
    return tuple([(lock.rest - turn) % lock.number for lock, turn in zip(locks, turns)])


# Each lock is a dial as its number tells, which a lever turns as it turns the lock's sum.
# So what opens the locks leads there from nought to what they want, and shares that bar
# are weights that show that nothing does.
def lock_vault(vault, locks):
    return Vault([lock.number for lock in locks], [turns_of(locks, lever) for lever in vault.levers()])


def met(vault, setting, locks):
    need_locks(vault, setting, locks)
    return all([want == 0 for want in wants_of(locks, setting)])


# No vault is without dials: no locks are open as they are.
def open_from(vault, setting, locks):
    need_locks(vault, setting, locks)
    if len(locks) == 0:
        return Way((0,) * len(vault.levers()))
    dials = lock_vault(vault, locks)
    paper = bring(dials, nought(dials), wants_of(locks, setting))
    return paper if paper.brings() else Shut(paper.weights)


class Shut(Paper):
    def __init__(self, shares):
        self.shares = shares

    def words(self):
        return ("shares", self.shares)

    def bars(self, vault, setting, locks):
        need_locks(vault, setting, locks)
        if len(locks) == 0:
            return False
        dials = lock_vault(vault, locks)
        return Bar(self.shares).shows(dials, nought(dials), wants_of(locks, setting))
