"""[74] vaults that are built alike, with the ways there and back, and vaults that are not."""

import math
import random
import unittest

from dialvault.build import Build, alike, ended
from dialvault.classes import class_count
from dialvault.rungs import Rungs
from dialvault.vault import Vault
from plain import SIZES, SMALL, doings, drawn_levers, large_vaults, more_small, plus, settings


def led(sizes, ways, setting):
    reached = (0,) * len(sizes)
    for notch, way in zip(setting, ways):
        reached = plus(sizes, reached, way, notch)
    return reached


def with_order(sizes, levers, order):
    return (tuple(sizes[k] for k in order), tuple(tuple(lever[k] for k in order) for lever in levers))


# One dial parted into two by factors that have nothing in common.
def parted(sizes, levers, dial, factor):
    other = sizes[dial] // factor
    assert math.gcd(factor, other) == 1
    moved = [lever[:dial] + (lever[dial] % factor, lever[dial] % other) + lever[dial + 1:] for lever in levers]
    return (sizes[:dial] + (factor, other) + sizes[dial + 1:], tuple(moved))


# A dial more that is turned freely has no class of its own.
def with_free_dial(sizes, levers, size):
    return (sizes + (size,), tuple(lever + (0,) for lever in levers) + ((0,) * len(sizes) + (1,),))


class Alike(unittest.TestCase):
    # By sums: one notch of each dial goes there and back, and so all settings do.
    def check(self, one, other):
        vaults = (Vault(*one), Vault(*other))
        word, there, back = alike(*vaults)
        self.assertEqual(word, "alike")
        self.check_way(vaults[0], vaults[1], there, back)
        self.check_way(vaults[1], vaults[0], back, there)
        return (there, back)

    def is_doing(self, vault, setting):
        return Rungs(vault).pulls_to(setting) is not None

    def check_way(self, one, other, there, back):
        sizes = one.sizes()
        others = other.sizes()
        self.assertIs(type(there), list)
        self.assertEqual(len(there), len(sizes))
        rungs = Rungs(other)
        for setting, size in zip(there, sizes):
            self.assertIs(type(setting), tuple)
            self.assertEqual(len(setting), len(others))
            self.assertTrue(all(type(n) is int and 0 <= n < most for n, most in zip(setting, others)))
            self.assertIsNotNone(rungs.pulls_to(plus(others, (0,) * len(others), setting, size)))
        for lever in one.levers():
            self.assertIsNotNone(rungs.pulls_to(led(others, there, lever)))
        for dial in range(len(sizes)):
            unit = tuple(int(k == dial) for k in range(len(sizes)))
            returned = led(sizes, back, led(others, there, unit))
            self.assertTrue(self.is_doing(one, plus(sizes, returned, unit, -1)))

    def test_told_values(self):
        there, back = self.check(((12,), ()), ((3, 4), ()))
        for notch in range(12):
            self.assertEqual(led((12,), back, led((3, 4), there, (notch,))), (notch,))
        self.assertEqual(alike(Vault([2], [[1]]), Vault([3, 5], [[1, 1]])), ("alike", [(0, 0)], [(0,), (0,)]))
        self.check(((12,), ((8,),)), ((4,), ()))
        self.check(((4, 6), ((2, 3),)), ((12, 5), ((0, 1),)))

    def test_small_vaults_gone_through(self):
        chance = random.Random(75)
        for sizes, levers in SMALL + more_small(75, 30, 60):
            order = list(range(len(sizes)))
            chance.shuffle(order)
            others, moved = with_order(sizes, levers, order)
            there, back = self.check((sizes, levers), (others, moved))
            done = doings(sizes, levers)
            reach = doings(others, moved)
            for setting in settings(sizes):
                away = led(others, there, setting)
                self.assertIn(plus(sizes, led(sizes, back, away), setting, -1), done)
                self.assertEqual(away in reach, setting in done)

    def test_every_two_of_the_small_vaults(self):
        built = {}
        for sizes, levers in SMALL:
            numbers = tuple(number for number in Build(Vault(sizes, levers)).numbers() if number > 1)
            built.setdefault(numbers, []).append((sizes, levers))
        seen = [0, 0]
        for numbers, some in built.items():
            for others, more in built.items():
                for one in some:
                    for other in more:
                        seen[numbers == others] += 1
                        if numbers == others:
                            self.check(one, other)
                        else:
                            self.assertEqual(alike(Vault(*one), Vault(*other))[0], "unlike")
        self.assertTrue(min(seen) > 40, seen)

    def test_dials_in_another_order(self):
        chance = random.Random(76)
        for sizes, levers in large_vaults():
            order = list(range(6))
            chance.shuffle(order)
            self.check((sizes, levers), with_order(sizes, levers, order))

    def test_one_dial_parted_into_two(self):
        chance = random.Random(77)
        for stride in (1, 2, 6, 12):
            for count in range(0, 9, 2):
                sizes = (360, 240, 180, 144, 100)
                levers = drawn_levers(chance, sizes, count, stride)
                for dial, factor in ((0, 8), (0, 45), (1, 3), (2, 20), (3, 9), (4, 25)):
                    self.check((sizes, levers), parted(sizes, levers, dial, factor))
                    self.check(parted(sizes, levers, dial, factor), (sizes, levers))

    def test_a_lever_more_or_less(self):
        chance = random.Random(78)
        for stride in (1, 2, 6):
            sizes = (360, 240, 180, 144, 100)
            levers = drawn_levers(chance, sizes, 5, stride)
            # A lever that the others do changes nothing.
            more = levers + (plus(sizes, levers[0], levers[3], 11),)
            self.check((sizes, levers), (sizes, more))
            self.check((sizes, levers), with_free_dial(sizes, more, 77))
            self.check((sizes, levers), with_free_dial(sizes, levers[::-1], 360))

    def test_told_again_the_same(self):
        one = Vault([4, 6], [[2, 3]])
        other = Vault([12, 5], [[0, 1]], [9])
        first = alike(one, other)
        kept = (first[0], list(first[1]), list(first[2]))
        self.assertIs(type(first), tuple)
        first[1].append(None)
        first[2].clear()
        self.assertEqual(alike(one, other), kept)
        self.assertEqual(alike(Vault((4, 6), ((-2, -3),)), Vault((12, 5), ((12, 6),))), kept)


class NotAlike(unittest.TestCase):
    def check(self, one, other):
        told = alike(one, other)
        self.assertIs(type(told), tuple)
        word, turns, first, second = told
        self.assertEqual(word, "unlike")
        self.assertEqual([type(number) for number in told[1:]], [int] * 3)
        self.assertTrue(2 <= turns <= 360)
        self.assertEqual((first, second), (ended(one, turns), ended(other, turns)))
        self.assertNotEqual(first, second)
        self.assertTrue(all(ended(one, less) == ended(other, less) for less in range(2, turns)))
        self.assertEqual(alike(other, one), ("unlike", turns, second, first))

    def test_told_values(self):
        for one, other, told in (
            (Vault([12], []), Vault([2, 6], []), ("unlike", 2, 2, 4)),
            (Vault([12], []), Vault([12], [[6]]), ("unlike", 4, 4, 2)),
            (Vault([360], []), Vault([180], []), ("unlike", 8, 8, 4)),
            (Vault([2], [[1]]), Vault([359], []), ("unlike", 359, 1, 359)),
            (Vault([343], []), Vault([49], []), ("unlike", 343, 343, 49)),
            (Vault([4, 4], []), Vault([2, 8], []), ("unlike", 4, 16, 8)),
            (Vault([256], []), Vault([128, 2], []), ("unlike", 2, 2, 4)),
            (Vault([256, 3], []), Vault([128, 3], []), ("unlike", 256, 256, 128)),
        ):
            self.assertEqual(alike(one, other), told)
            self.check(one, other)

    def test_small_vaults_gone_through(self):
        vaults = [Vault(*one) for one in SMALL + more_small(79, 10, 60)]
        for one in vaults:
            for other in vaults[::3]:
                if alike(one, other)[0] == "unlike":
                    self.check(one, other)

    def test_large_vaults(self):
        chance = random.Random(79)
        seen = 0
        for stride in (1, 2, 6, 12):
            for count in range(1, 8):
                levers = drawn_levers(chance, SIZES, count, stride)
                one = Vault(SIZES, levers)
                other = Vault(SIZES, levers[1:])
                if class_count(one) != class_count(other):
                    seen += 1
                    self.check(one, other)
        self.assertTrue(seen > 15, seen)

    def test_as_many_classes_but_unlike(self):
        self.check(Vault([2, 180], []), Vault([360], []))
        self.check(Vault([16, 16], []), Vault([8, 32], []))
        self.check(Vault([3, 3, 9, 81], []), Vault([3, 9, 9, 27], []))


if __name__ == "__main__":
    unittest.main()
