"""Gears, which lead the settings of some dials to settings of others, and what they make of a vault."""

from dialvault.errors import NoGear
from dialvault.stills import clear, stills
from dialvault.vault import Vault, need_same_sizes, need_setting
from dialvault.wholes import is_row, rest_sum, rest_sums


class Gear:
    # All is copied into vaults and tuples, so that nobody who holds the lists can change the gear.
    def __init__(self, front, rear, teeth):
        self.front_dials = Vault(front, [])
        self.rear_dials = Vault(rear, [])
        need_teeth(front, rear, teeth)
        self.tooth_rows = tuple([tuple(row) for row in teeth])

    def led(self, setting):
        need_setting(self.front_dials, setting)
        return rest_sums(setting, self.tooth_rows, self.rear_dials.sizes())


def is_tooth_row(thing, size, rear):
    if not is_row(thing, len(rear)):
        return False
    return all([size * tooth % other == 0 for tooth, other in zip(thing, rear)])


# Walked to the end of the longer one: a row too few or too many is refused at its own
# place, behind any wrong row ahead of it.
def need_teeth(front, rear, teeth):
    for dial in range(max(len(front), len(teeth))):
        if dial >= len(front) or dial >= len(teeth) or not is_tooth_row(teeth[dial], front[dial], rear):
            raise NoGear(dial)


def image(gear, vault):
    need_same_sizes(vault.sizes(), gear.front_dials.sizes())
    return clear(Vault(gear.rear_dials.sizes(), [gear.led(lever) for lever in vault.levers()]))


# One notch of a front dial is worth a share of its round, as its teeth are worth shares of
# theirs at the rear: so these weights weigh a setting as the rear ones weigh what it is led to.
def weights_ahead(gear, weights):
    front = gear.front_dials.sizes()
    rear = gear.rear_dials.sizes()
    told = []
    for size, row in zip(front, gear.tooth_rows):
        shares = [size * tooth // other for tooth, other in zip(row, rear)]
        told.append(rest_sum(weights, shares, size))
    return tuple(told)


# A setting is led to a doing just where all still weights of the rear vault weigh 0 what it is led to.
def led_into(gear, vault):
    need_same_sizes(vault.sizes(), gear.rear_dials.sizes())
    ahead = [weights_ahead(gear, weights) for weights in stills(vault).levers()]
    return stills(Vault(gear.front_dials.sizes(), ahead))
