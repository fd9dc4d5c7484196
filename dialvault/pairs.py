"""Two vaults over the same dials: what they do together, and what both can do; and what was seen of one."""

from dialvault.errors import NoSetting, TooMany
from dialvault.rungs import Rungs
from dialvault.stills import clear_of, stills
from dialvault.vault import Vault, between, need_same_sizes

MOST_SEEN = 40


def together(one, other):
    need_same_sizes(one.sizes(), other.sizes())
    return clear_of(one.sizes(), one.levers() + other.levers())


# A doing of both is what the still weights of the one and those of the other leave still.
def both(one, other):
    return stills(together(stills(one), stills(other)))


def both_ways(one, other):
    levers = both(one, other).levers()
    first = Rungs(one)
    second = Rungs(other)
    return [(lever, first.pulls_to(lever), second.pulls_to(lever)) for lever in levers]


def seen_vault(sizes, seen):
    unmoved = Vault(sizes, [])
    if len(seen) == 0:
        raise NoSetting("no setting was seen")
    if len(seen) > MOST_SEEN:
        raise TooMany("more than forty settings were seen")
    return clear_of(sizes, [between(unmoved, seen[0], setting) for setting in seen])
