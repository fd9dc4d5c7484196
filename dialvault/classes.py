"""The classes of a vault's settings, and what some of its levers can do for all of them."""

from dialvault.errors import NoNumber, TooMany
from dialvault.rungs import Rungs, bring
from dialvault.vault import Vault, added, between, is_within, need_same_sizes, need_setting, nought, turned
from dialvault.wholes import product_of

MOST_SETTINGS = 1024


def together_count(vault):
    return product_of(Rungs(vault).spans())


def class_count(vault):
    return product_of(Rungs(vault).steps())


def least_of(vault, setting):
    return Rungs(vault).least(setting)


def belong(vault, one, other):
    difference = between(vault, one, other)
    return Rungs(vault).least(difference) == nought(vault)


# Each of them is the least one and each dial's step, taken fewer times than fill its dial.
def all_together(vault, setting):
    need_setting(vault, setting)
    rungs = Rungs(vault)
    if product_of(rungs.spans()) > MOST_SETTINGS:
        raise TooMany("more settings belong together than are gone through")
    settings = [rungs.least(setting)]
    for size, step, row in zip(vault.sizes(), rungs.steps(), rungs.rows()):
        wider = []
        for times in range(size // step):
            wider.extend([added(vault, reached, row, times) for reached in settings])
        settings = wider
    return sorted(settings)


def normal(vault, pulls):
    return Rungs(vault).pulls_to(turned(vault, nought(vault), pulls))


# The steps hang on the doings alone, and make them all.
def does_as(one, other):
    need_same_sizes(one.sizes(), other.sizes())
    return Rungs(one).rows() == Rungs(other).rows()


def all_bits(vault):
    return (1 << len(vault.levers())) - 1


def places_in(bits):
    return [place for place in range(bits.bit_length()) if (bits >> place) & 1 == 1]


def picked(vault, bits):
    if not is_within(bits, 0, all_bits(vault)):
        raise NoNumber("this number picks no levers of the vault")
    places = places_in(bits)
    levers = vault.levers()
    prices = vault.prices()
    return Vault(vault.sizes(), [levers[place] for place in places], [prices[place] for place in places])


def enough(vault, bits):
    some = picked(vault, bits)
    return [bring(some, nought(vault), lever) for lever in vault.levers()]


def is_needless(vault, place):
    others = picked(vault, all_bits(vault) - (1 << place))
    return belong(others, nought(vault), vault.levers()[place])


def needless(vault):
    return sum([1 << place for place in range(len(vault.levers())) if is_needless(vault, place)])


# A pick without a lever that is not needless does less than all levers do: it is left out.
def picks_by_levers(vault):
    needed = all_bits(vault) - needless(vault)
    picks = [bits for bits in range(all_bits(vault) + 1) if (bits & needed) == needed]
    return sorted(picks, key=lambda bits: (len(places_in(bits)), bits))


# The last pick has all levers, so the walk ends at one that does the same.
def fewest_levers(vault):
    steps = Rungs(vault).rows()
    picks = picks_by_levers(vault)
    place = 0
    while Rungs(picked(vault, picks[place])).rows() != steps:
        place += 1
    return picks[place]
