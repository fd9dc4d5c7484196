"""The vault: its dials and levers, its settings, and what pulls make of them."""

from dialvault.errors import NoDial, NoLever, NoPrice, NoPulls, NoSetting, TooMany, Unlike
from dialvault.wholes import is_row, is_whole, multiple_of

MOST_DIALS = 6
LEAST_SIZE = 2
MOST_SIZE = 360
MOST_LEVERS = 8
LEAST_PRICE = 1
MOST_PRICE = 1000


class Vault:
    # All is copied into tuples, so that nobody who holds the lists can change the vault.
    def __init__(self, sizes, levers, prices=None):
        need_sizes(sizes)
        need_levers(levers, len(sizes))
        self.dial_sizes = tuple(sizes)
        self.lever_settings = tuple([rests(lever, sizes) for lever in levers])
        self.lever_prices = prices_for(levers, prices)
        self.least_round = multiple_of(sizes)

    def sizes(self):
        return self.dial_sizes

    def levers(self):
        return self.lever_settings

    def prices(self):
        return self.lever_prices

    def around(self):
        return self.least_round


def is_within(thing, least, most):
    return is_whole(thing) and least <= thing <= most


def need_sizes(sizes):
    if len(sizes) > MOST_DIALS:
        raise TooMany("a vault has at most six dials")
    if len(sizes) == 0:
        raise NoDial(0)
    for dial, size in enumerate(sizes):
        if not is_within(size, LEAST_SIZE, MOST_SIZE):
            raise NoDial(dial)


def need_same_sizes(sizes, others):
    if sizes != others:
        raise Unlike("these dials have unlike sizes")


def need_levers(levers, dials):
    if len(levers) > MOST_LEVERS:
        raise TooMany("a vault has at most eight levers")
    for place, lever in enumerate(levers):
        if not is_row(lever, dials):
            raise NoLever(place)


def prices_for(levers, prices):
    if prices is None:
        return (LEAST_PRICE,) * len(levers)
    # Walked to the end of the longer one: a price too few or too many is refused at
    # its own place, behind any wrong price ahead of it.
    for place in range(max(len(levers), len(prices))):
        if place >= len(levers) or place >= len(prices):
            raise NoPrice(place)
        if not is_within(prices[place], LEAST_PRICE, MOST_PRICE):
            raise NoPrice(place)
    return tuple(prices)


def rests(numbers, sizes):
    return tuple([number % size for number, size in zip(numbers, sizes)])


def nought(vault):
    return (0,) * len(vault.sizes())


def is_setting(vault, thing):
    sizes = vault.sizes()
    if not isinstance(thing, tuple) or not is_row(thing, len(sizes)):
        return False
    return all([0 <= notch < size for notch, size in zip(thing, sizes)])


def is_pulls(vault, thing):
    return isinstance(thing, tuple) and is_row(thing, len(vault.levers()))


def need_setting(vault, thing):
    if not is_setting(vault, thing):
        raise NoSetting("this is no setting of the vault")


def need_pulls(vault, thing):
    if not is_pulls(vault, thing):
        raise NoPulls("these are no pulls of the vault")


def kept(vault, numbers):
    sizes = vault.sizes()
    if not is_row(numbers, len(sizes)):
        raise NoSetting("this is not one whole number for each dial")
    return rests(numbers, sizes)


def added(vault, setting, other, times):
    numbers = [notch + times * turn for notch, turn in zip(setting, other)]
    return rests(numbers, vault.sizes())


def turned(vault, setting, pulls):
    need_setting(vault, setting)
    need_pulls(vault, pulls)
    reached = setting
    for lever, times in zip(vault.levers(), pulls):
        reached = added(vault, reached, lever, times)
    return reached


def pulled(vault, setting, lever, times=1):
    need_setting(vault, setting)
    levers = vault.levers()
    if not is_within(lever, 0, len(levers) - 1):
        raise NoLever(lever)
    if not is_whole(times):
        raise NoPulls("a lever is pulled a whole number of times")
    return added(vault, setting, levers[lever], times)


def between(vault, one, other):
    need_setting(vault, one)
    need_setting(vault, other)
    return added(vault, other, one, -1)
