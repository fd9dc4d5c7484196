"""Papers: whoever can add can check by them whether pulls lead from one setting to another."""

from dialvault.vault import between, is_pulls, is_setting, need_setting, turned
from dialvault.wholes import rest_sum


def weigh(vault, weights, setting):
    need_setting(vault, weights)
    need_setting(vault, setting)
    around = vault.around()
    worths = [weight * (around // size) for weight, size in zip(weights, vault.sizes())]
    return rest_sum(worths, setting, around)


def weighs_no_lever(vault, weights):
    return all([weigh(vault, weights, lever) == 0 for lever in vault.levers()])


class Paper:
    def brings(self):
        return False

    def shows(self, vault, one, other):
        need_setting(vault, one)
        need_setting(vault, other)
        return False

    def words(self):
        return ()


class Way(Paper):
    def __init__(self, pulls):
        self.pulls = pulls

    def brings(self):
        return True

    def shows(self, vault, one, other):
        need_setting(vault, one)
        need_setting(vault, other)
        return is_pulls(vault, self.pulls) and turned(vault, one, self.pulls) == other

    def words(self):
        return ("pulls", self.pulls)


class Bar(Paper):
    def __init__(self, weights):
        self.weights = weights

    # The difference is taken first: what is no setting is refused whatever the weights are.
    def shows(self, vault, one, other):
        difference = between(vault, one, other)
        if not is_setting(vault, self.weights) or not weighs_no_lever(vault, self.weights):
            return False
        return weigh(vault, self.weights, difference) != 0

    def words(self):
        return ("weights", self.weights)
