"""[80] to [83] the cheapest roads from a start, [84] the cheapest for two settings."""

import heapq
import math
import random
import unittest

from dialvault.errors import NoSetting, TooMany
from dialvault.papers import Bar
from dialvault.roads import Roads, cheapest
from dialvault.vault import Vault
from plain import BIG, SMALL, THINGS, Refused, doings, drawn_levers, more_small, plus, settings, weight_of

BEYOND = [(12, 0, 0), (0, 60, 0), (0, 0, 7), (-1, 0, 0), (0, True, 0), (0, 0, BIG), [0, 0, 0]]


# The least prices of all roads, the nearest settings being gone through first.
def prices_by_hand(sizes, levers, prices, start):
    found = {}
    edge = [(0, start)]
    while edge:
        price, setting = heapq.heappop(edge)
        if setting in found:
            continue
        found[setting] = price
        for lever, cost in zip(levers, prices):
            for way in (1, -1):
                heapq.heappush(edge, (price + cost, plus(sizes, setting, lever, way)))
    return found


def small_cases():
    chance = random.Random(80)
    cases = []
    for sizes, levers in SMALL + more_small(80, 40, 150):
        start = chance.choice(settings(sizes))
        most = chance.choice((1, 3, 10, 1000))
        cases.append((sizes, levers, [chance.randint(1, most) for _ in levers], start))
    return cases


def large_cases():
    chance = random.Random(81)
    cases = []
    for sizes in ((32, 32), (4, 256), (2, 2, 4, 4, 4, 4), (360, 2), (31, 33), (340, 3), (4, 4, 8, 8), (360,), (359,)):
        for most in (1, 20, 1000):
            levers = drawn_levers(chance, sizes, chance.randint(1, 8), 1)
            start = tuple(chance.randrange(size) for size in sizes)
            cases.append((sizes, levers, [chance.randint(1, most) for _ in levers], start))
    # Few settings of very many belong together.
    sizes = (360, 360, 360, 360, 360, 360)
    levers = [(180, 0, 0, 0, 0, 90), (0, 120, 0, 60, 0, 0), (0, 0, 72, 0, 0, 0), (0, 0, 0, 0, 45, 0)]
    cases.append((sizes, levers, [1, 20, 300, 4], (359, 1, 2, 3, 4, 5)))
    return cases


class RoadsChecked(Refused):
    def check_road(self, sizes, levers, prices, one, other, price, road):
        self.assertIs(type(road), list)
        reached = one
        cost = 0
        for step in road:
            self.assertIs(type(step), tuple)
            self.assertEqual((len(step), type(step[0]), type(step[1])), (2, int, int))
            self.assertTrue(0 <= step[0] < len(levers) and step[1] in (1, -1))
            reached = plus(sizes, reached, levers[step[0]], step[1])
            cost += prices[step[0]]
        self.assertEqual((reached, cost), (other, price))

    def check_table(self, sizes, levers, prices, start, table):
        self.assertIs(type(table), dict)
        self.assertEqual(list(table), sorted(plus(sizes, start, doing) for doing in doings(sizes, levers)))
        self.assertEqual([setting for setting in table if table[setting] == 0], [start])
        for setting, price in table.items():
            self.assertIs(type(price), int)
            steps = []
            for lever, cost in zip(levers, prices):
                for way in (1, -1):
                    near = table[plus(sizes, setting, lever, way)]
                    self.assertLessEqual(near, price + cost)
                    steps.append(near + cost == price)
            self.assertTrue(setting == start or any(steps))


class Told(RoadsChecked):
    def test_told_values(self):
        roads = Roads(Vault([5], [[1]]), (1,))
        self.assertEqual(roads.table(), {(0,): 1, (1,): 0, (2,): 1, (3,): 2, (4,): 2})
        self.assertEqual(roads.dearest(), (2, (3,)))
        self.assertEqual(roads.road((1,)), [])
        self.assertEqual(roads.road((3,)), [(0, 1), (0, 1)])
        self.assertEqual(roads.road((4,)), [(0, -1), (0, -1)])
        self.assertEqual(roads.price_of((4,)), 2)
        roads = Roads(Vault([12], [[1], [5]], [10, 1]), (0,))
        self.assertEqual(roads.table()[(1,)], 5)
        self.assertEqual(roads.road((1,)), [(1, 1)] * 5)
        self.assertEqual(roads.dearest(), (6, (6,)))
        roads = Roads(Vault([12], [[4]], [7]), (1,))
        self.assertEqual(list(roads.table().items()), [((1,), 0), ((5,), 7), ((9,), 7)])
        self.assertEqual(roads.dearest(), (7, (5,)))
        self.assertEqual((roads.price_of((0,)), roads.road((0,))), (None, None))

    def test_without_levers_that_lead_away(self):
        for levers in ([], [[0, 0]], [[0, 0]] * 8):
            roads = Roads(Vault([4, 6], levers), (3, 5))
            self.assertEqual(roads.table(), {(3, 5): 0})
            self.assertEqual(roads.dearest(), (0, (3, 5)))
            self.assertEqual((roads.price_of((3, 5)), roads.road((3, 5))), (0, []))
            self.assertEqual((roads.price_of((0, 0)), roads.road((0, 0))), (None, None))

    def test_small_vaults_gone_through(self):
        for sizes, levers, prices, start in small_cases():
            roads = Roads(Vault(sizes, levers, prices), start)
            right = prices_by_hand(sizes, levers, prices, start)
            table = roads.table()
            self.assertEqual(table, right)
            self.check_table(sizes, levers, prices, start, table)
            for setting in settings(sizes):
                self.assertEqual(roads.price_of(setting), right.get(setting))
                if setting in right:
                    self.check_road(sizes, levers, prices, start, setting, right[setting], roads.road(setting))
                else:
                    self.assertIsNone(roads.road(setting))
            most = max(right.values())
            self.assertEqual(roads.dearest(), (most, min(s for s in right if right[s] == most)))

    def test_large_vaults(self):
        chance = random.Random(82)
        for sizes, levers, prices, start in large_cases():
            roads = Roads(Vault(sizes, levers, prices), start)
            right = prices_by_hand(sizes, levers, prices, start)
            table = roads.table()
            self.assertEqual(table, right)
            self.check_table(sizes, levers, prices, start, table)
            for setting in [start] + chance.choices(sorted(right), k=12):
                self.assertEqual(roads.price_of(setting), right[setting])
                self.check_road(sizes, levers, prices, start, setting, right[setting], roads.road(setting))
            most = max(right.values())
            self.assertEqual(roads.dearest(), (most, min(s for s in right if right[s] == most)))
            self.assertIs(type(roads.dearest()), tuple)

    def test_the_dearest_of_all(self):
        roads = Roads(Vault([2] * 6, [[int(k == j) for k in range(6)] for j in range(6)], [1000] * 6), (1,) * 6)
        self.assertEqual(roads.dearest(), (6000, (0,) * 6))
        roads = Roads(Vault([360, 2], [[1, 0], [0, 1]], [1000, 1]), (0, 0))
        self.assertEqual(roads.dearest(), (180001, (180, 1)))
        self.assertEqual(len(roads.road((180, 1))), 181)
        # One ring of 1,008 settings: half of it is the farthest that there is.
        roads = Roads(Vault([7, 9, 16], [[1, 1, 1]], [1000]), (0, 0, 0))
        self.assertEqual(len(roads.table()), 1008)
        self.assertEqual(roads.dearest(), (504000, (0, 0, 8)))
        self.assertEqual(roads.road((0, 0, 8)), [(0, 1)] * 504)


class AlsoSo(RoadsChecked):
    def test_a_road_back_costs_the_same(self):
        for sizes, levers, prices, start in small_cases()[::3]:
            vault = Vault(sizes, levers, prices)
            table = Roads(vault, start).table()
            for setting in sorted(table)[:12]:
                roads = Roads(vault, setting)
                self.assertEqual(roads.price_of(start), table[setting])
                back = [(lever, -way) for lever, way in reversed(Roads(vault, start).road(setting))]
                self.check_road(sizes, levers, prices, setting, start, table[setting], back)

    def test_a_price_hangs_on_the_difference_alone(self):
        for sizes, levers, prices, start in small_cases()[::3]:
            vault = Vault(sizes, levers, prices)
            none = (0,) * len(sizes)
            from_start = Roads(vault, start).table()
            for setting, price in Roads(vault, none).table().items():
                self.assertEqual(from_start[plus(sizes, start, setting)], price)

    def test_by_way_of_a_third_is_never_cheaper(self):
        for sizes, levers, prices, start in small_cases()[::3]:
            table = Roads(Vault(sizes, levers, prices), (0,) * len(sizes)).table()
            for one in sorted(table)[:15]:
                for other in sorted(table)[:15]:
                    self.assertLessEqual(table[plus(sizes, one, other)], table[one] + table[other])


class Own(RoadsChecked):
    def test_what_is_told_is_the_askers_own(self):
        roads = Roads(Vault([5], [[1]]), (1,))
        table = roads.table()
        table[(1,)] = 99
        table.pop((0,))
        table["x"] = 1
        road = roads.road((3,))
        road.clear()
        self.assertEqual(roads.table(), {(0,): 1, (1,): 0, (2,): 1, (3,): 2, (4,): 2})
        self.assertEqual(roads.road((3,)), [(0, 1), (0, 1)])
        self.assertEqual(roads.dearest(), (2, (3,)))
        self.assertEqual(roads.price_of((0,)), 1)

    def test_told_again_the_same(self):
        for sizes, levers, prices, start in small_cases()[::4]:
            one = Roads(Vault(sizes, levers, prices), start)
            other = Roads(Vault(list(sizes), [list(lever) for lever in levers], tuple(prices)), start)
            self.assertEqual((list(one.table().items()), one.dearest()), (list(other.table().items()), other.dearest()))
            for setting in one.table():
                self.assertEqual(one.road(setting), other.road(setting))
                self.assertEqual(one.road(setting), one.road(setting))


class Refusals(RoadsChecked):
    def test_no_setting(self):
        vault = Vault([12, 60, 7], [[1, 0, 0], [3, 30, 1]], [1, 5])
        full = Vault([12, 60, 7], [[1, 0, 0], [0, 1, 0]])
        roads = Roads(vault, (0, 0, 0))
        for thing in THINGS + BEYOND:
            self.refused(NoSetting, Roads, vault, thing)
            self.refused(NoSetting, roads.price_of, thing)
            self.refused(NoSetting, roads.road, thing)
            for some in (vault, full, Vault([12, 60, 7], [[0, 1, 0], [1, 0, 0], [0, 0, 1]])):
                self.refused(NoSetting, cheapest, some, thing, (0, 0, 0))
                self.refused(NoSetting, cheapest, some, (0, 0, 0), thing)
            # More than 1,024 belong together here: what is no setting goes first.
            self.refused(NoSetting, Roads, Vault([12, 60, 7], [[0, 1, 0], [1, 0, 0], [0, 0, 1]]), thing)

    def test_just_as_many_and_too_many(self):
        for sizes, count in (((32, 32), 1024), ((4, 256), 1024), ((25, 41), 1025), ((33, 32), 1056)):
            units = [[int(k == j) for k in range(2)] for j in range(2)]
            vault = Vault(sizes, units)
            if count > 1024:
                self.refused(TooMany, Roads, vault, (0, 0))
                self.refused(TooMany, cheapest, vault, (0, 0), (1, 1))
                self.refused(TooMany, cheapest, vault, (1, 1), (1, 1))
            else:
                self.assertEqual(len(Roads(vault, (1, 1)).table()), count)
                self.assertEqual(cheapest(vault, (0, 0), (1, 1))[0], 2)
        self.assertEqual(len(Roads(Vault([64, 64], [[2, 0], [0, 2]]), (1, 1)).table()), 1024)
        self.refused(TooMany, Roads, Vault([64, 64], [[2, 0], [0, 2], [0, 0], [32, 1]]), (1, 1))
        self.refused(TooMany, Roads, Vault([360] * 6, [[1] * 6, [0, 1, 2, 3, 4, 5]]), (0,) * 6)


class Cheapest(RoadsChecked):
    def test_told_values(self):
        vault = Vault([12], [[4], [8]], [7, 3])
        self.assertEqual(cheapest(vault, (1,), (5,)), (3, [(1, -1)]))
        self.assertEqual(cheapest(vault, (1,), (1,)), (0, []))
        self.assertIs(type(cheapest(vault, (1,), (2,))), Bar)

    def test_small_vaults_gone_through(self):
        for sizes, levers, prices, start in small_cases():
            vault = Vault(sizes, levers, prices)
            right = prices_by_hand(sizes, levers, prices, start)
            for other in settings(sizes)[:60]:
                told = cheapest(vault, start, other)
                if other in right:
                    self.assertEqual((type(told), len(told), told[0]), (tuple, 2, right[other]))
                    self.check_road(sizes, levers, prices, start, other, told[0], told[1])
                else:
                    self.check_bar(sizes, levers, start, other, told)

    def check_bar(self, sizes, levers, one, other, told):
        self.assertIs(type(told), Bar)
        self.assertIs(told.shows(Vault(sizes, levers), one, other), True)
        self.assertTrue(all(weight_of(sizes, told.weights, lever) == 0 for lever in levers))
        self.assertNotEqual(weight_of(sizes, told.weights, plus(sizes, other, one, -1)), 0)

    def test_a_bar_whatever_the_counts(self):
        for sizes, levers, one, other in (
            ((360, 360), ((2, 0), (0, 2)), (0, 0), (1, 1)), ((360,) * 6, ((1, 0, 0, 0, 0, 1),) * 7, (0,) * 6, (1,) * 6),
            ((360,) * 6, ((2,) * 6, (0, 4, 0, 6, 0, 1)), (0,) * 6, (1, 2, 3, 4, 5, 6)), ((33, 64), ((1, 0), (0, 2)), (0, 0), (5, 5)),
        ):
            self.assertGreater(math.prod(sizes), 1024)
            self.check_bar(sizes, levers, one, other, cheapest(Vault(sizes, levers), one, other))
            self.check_bar(sizes, levers, other, one, cheapest(Vault(sizes, levers), other, one))
            self.refused(TooMany, cheapest, Vault(sizes, levers + ((2,) + (0,) * (len(sizes) - 1),)), one, one)


if __name__ == "__main__":
    unittest.main()
