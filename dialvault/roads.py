"""The cheapest roads from a setting to all that belong together with it."""

from dialvault.classes import all_together
from dialvault.rungs import bring
from dialvault.vault import added, need_setting, pulled

# A cheapest road comes to no setting twice: of at most 1,024 settings, and with steps that
# cost at most 1000, none costs as much as this.
BEYOND_ALL = 1024000


# All settings that one lever by itself leads to from this one, in the order of its pulls.
def ring_from(vault, setting, lever):
    ring = [setting]
    further = added(vault, setting, lever, 1)
    while further != setting:
        ring.append(further)
        further = added(vault, further, lever, 1)
    return ring


# Twice round, so that each setting of the ring comes behind each other one.
def go_round(prices, ring, cost):
    price = BEYOND_ALL
    for setting in ring + ring:
        price = min(price + cost, prices[setting])
        prices[setting] = price


def pull_along(vault, prices, lever, cost):
    done = {}
    for setting in list(prices):
        if setting not in done:
            ring = ring_from(vault, setting, lever)
            go_round(prices, ring, cost)
            go_round(prices, list(reversed(ring)), cost)
            for other in ring:
                done[other] = True


# The order of the steps changes neither where a road leads nor its price: so the levers are
# taken one after the other, each of them as many times as is cheapest.
def prices_from(vault, start):
    prices = {}
    for setting in all_together(vault, start):
        prices[setting] = BEYOND_ALL
    prices[start] = 0
    for lever, cost in zip(vault.levers(), vault.prices()):
        pull_along(vault, prices, lever, cost)
    return prices


def all_steps(vault):
    steps = []
    for lever in range(len(vault.levers())):
        steps.extend([(lever, 1), (lever, -1)])
    return steps


def ahead_of(vault, step, setting):
    return pulled(vault, setting, step[0], -step[1])


class Roads:
    def __init__(self, vault, start):
        self.vault = vault
        self.start = start
        self.price_table = prices_from(vault, start)

    def table(self):
        return dict(self.price_table)

    def price_of(self, setting):
        need_setting(self.vault, setting)
        return self.price_table.get(setting)

    def is_last(self, step, setting):
        ahead = self.price_table[ahead_of(self.vault, step, setting)]
        return ahead + self.vault.prices()[step[0]] == self.price_table[setting]

    # To each setting but the start some step leads from one that is cheaper by just its cost.
    def last_step(self, setting):
        return [step for step in all_steps(self.vault) if self.is_last(step, setting)][0]

    def road(self, setting):
        if self.price_of(setting) is None:
            return None
        backward = []
        reached = setting
        while reached != self.start:
            step = self.last_step(reached)
            backward.append(step)
            reached = ahead_of(self.vault, step, reached)
        return list(reversed(backward))

    def dearest(self):
        most = max(self.price_table.values())
        settings = [setting for setting, price in self.price_table.items() if price == most]
        return (most, settings[0])


def cheapest(vault, one, other):
    paper = bring(vault, one, other)
    if not paper.brings():
        return paper
    roads = Roads(vault, one)
    return (roads.price_of(other), roads.road(other))
