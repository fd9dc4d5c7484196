"""Clear vaults, whose levers are the steps, and the weights that are still whatever is pulled."""

from dialvault.classes import all_together
from dialvault.papers import weighs_no_lever
from dialvault.rungs import Rungs
from dialvault.vault import Vault, added, is_setting, need_setting, nought


def clear(vault):
    none = nought(vault)
    return Vault(vault.sizes(), [row for row in Rungs(vault).rows() if row != none])


# Taken in one by one: a vault has at most eight levers, here there may be more doings.
def clear_of(sizes, doings):
    cleared = Vault(sizes, [])
    for doing in doings:
        cleared = clear(Vault(sizes, list(cleared.levers()) + [doing]))
    return cleared


def is_still(vault, thing):
    return is_setting(vault, thing) and weighs_no_lever(vault, thing)


# Every still weights are a sum of the step weights: so these are levers for all of them.
def stills(vault):
    rungs = Rungs(vault)
    sizes = vault.sizes()
    return clear(Vault(sizes, [rungs.weights_at(dial) for dial in range(len(sizes))]))


def all_stills(vault):
    return all_together(stills(vault), nought(vault))


# From the last dial on to the first one: step weights have 0 at each dial behind their own.
def written(vault, weights):
    need_setting(vault, weights)
    if not weighs_no_lever(vault, weights):
        return None
    rungs = Rungs(vault)
    fills = [size // step for size, step in zip(vault.sizes(), rungs.steps())]
    times = [0] * len(fills)
    left = weights
    for dial in range(len(fills) - 1, -1, -1):
        times[dial] = left[dial] // fills[dial]
        left = added(vault, left, rungs.weights_at(dial), -times[dial])
    return tuple(times)
