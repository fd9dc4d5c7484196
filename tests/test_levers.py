"""[44] vaults that do the same, [45] picked levers, [46] what they can do, [47] needless ones, [48] the fewest."""

import itertools
import random
import unittest

from dialvault.classes import does_as, enough, fewest_levers, needless, picked, together_count
from dialvault.errors import NoNumber, Unlike
from dialvault.papers import Bar, Way
from dialvault.vault import Vault, is_pulls, turned
from plain import BIG, NO_NUMBERS, SMALL, Odd, Refused, doings, more_small, normal_forms

VAULTS = SMALL + more_small(44, 40, 60)


def ones(bits):
    return bin(bits).count("1")


def some_of(levers, bits):
    return tuple(lever for place, lever in enumerate(levers) if bits >> place & 1)


def picks_that_do(sizes, levers):
    done = doings(sizes, levers)
    return [bits for bits in range(2 ** len(levers)) if doings(sizes, some_of(levers, bits)) == done]


class DoesAs(Refused):
    def test_told_values(self):
        for one, other, told in (
            (Vault([12], [[8]]), Vault([12], [[4]]), True), (Vault([12], [[8]]), Vault([12], [[4], [8], [0]], [5, 6, 7]), True),
            (Vault([12], [[8]]), Vault([12], [[2]]), False), (Vault([12], [[8]]), Vault([12], [[6]]), False),
            (Vault([12], []), Vault([12], [[0]]), True), (Vault([12], []), Vault([12], [[1]]), False),
            (Vault([4, 6], [[2, 3]]), Vault([4, 6], [[2, 0], [0, 3]]), False),
            (Vault([4, 6], [[1, 1]]), Vault([4, 6], [[3, 5]]), True),
            (Vault([4, 6], [[1, 1]]), Vault([4, 6], [[1, 5], [0, 2]]), True),
            (Vault([2, 2], [[1, 0]]), Vault([2, 2], [[0, 1]]), False),
        ):
            self.assertIs(does_as(one, other), told)
            self.assertIs(does_as(other, one), told)

    def test_every_two_of_some_levers(self):
        for sizes in ((6,), (2, 4), (2, 2, 2), (3, 6), (4, 2)):
            chance = random.Random(44)
            some = [()]
            for count in (1, 2, 2, 3):
                some += [tuple(tuple(chance.randrange(s) for s in sizes) for _ in range(count)) for _ in range(5)]
            for one, other in itertools.product(some, repeat=2):
                same = doings(sizes, one) == doings(sizes, other)
                self.assertIs(does_as(Vault(sizes, one), Vault(sizes, other)), same)

    def test_as_many_is_not_the_same(self):
        one = Vault([4, 4], [[1, 0]])
        other = Vault([4, 4], [[1, 1]])
        self.assertEqual(together_count(one), together_count(other))
        self.assertIs(does_as(one, other), False)

    def test_unlike(self):
        for one, other in (
            (Vault([2, 3], []), Vault([3, 2], [])), (Vault([2], []), Vault([2, 2], [])), (Vault([4], []), Vault([8], [])),
            (Vault([4], [[1]]), Vault([5], [[1]])), (Vault([2, 2, 2], [[1, 1, 1]]), Vault([2, 2, 3], [[1, 1, 1]])),
        ):
            self.refused(Unlike, does_as, one, other)
            self.refused(Unlike, does_as, other, one)


class Picked(Refused):
    def parts(self, vault):
        return (vault.sizes(), vault.levers(), vault.prices())

    def test_told_values(self):
        vault = Vault([12, 60, 7], [[1, 0, 0], [3, 30, 1], [0, 0, 2]], [1, 5, 9])
        sizes = (12, 60, 7)
        for bits, levers, prices in (
            (0, (), ()), (1, ((1, 0, 0),), (1,)), (2, ((3, 30, 1),), (5,)), (3, ((1, 0, 0), (3, 30, 1)), (1, 5)),
            (4, ((0, 0, 2),), (9,)), (5, ((1, 0, 0), (0, 0, 2)), (1, 9)), (6, ((3, 30, 1), (0, 0, 2)), (5, 9)),
            (7, ((1, 0, 0), (3, 30, 1), (0, 0, 2)), (1, 5, 9)),
        ):
            self.assertIsInstance(picked(vault, bits), Vault)
            self.assertEqual(self.parts(picked(vault, bits)), (sizes, levers, prices))

    def test_every_pick_of_eight(self):
        levers = [(place, 1) for place in range(8)]
        vault = Vault([9, 4], levers, list(range(1, 9)))
        for bits in range(256):
            places = [place for place in range(8) if bits >> place & 1]
            told = picked(vault, bits)
            self.assertEqual(self.parts(told), (
                (9, 4), tuple(levers[place] for place in places), tuple(place + 1 for place in places),
            ))

    def test_no_number(self):
        for count in range(9):
            vault = Vault([5], [[1]] * count)
            self.assertEqual(len(picked(vault, 2 ** count - 1).levers()), count)
            self.assertEqual(len(picked(vault, 0).levers()), 0)
            for call in (picked, enough):
                for thing in [2 ** count, 2 ** count + 1, -1, -2, BIG, -BIG, Odd()] + NO_NUMBERS:
                    self.refused(NoNumber, call, vault, thing)

    def test_the_vault_stays(self):
        vault = Vault([12], [[8], [6]], [3, 4])
        picked(vault, 1)
        picked(vault, 0)
        self.refused(NoNumber, picked, vault, 4)
        self.assertEqual(self.parts(vault), ((12,), ((8,), (6,)), (3, 4)))


class Enough(unittest.TestCase):
    def check(self, sizes, levers, bits):
        vault = Vault(sizes, levers)
        some = some_of(levers, bits)
        smaller = Vault(sizes, some)
        forms = normal_forms(sizes, some)
        told = enough(vault, bits)
        self.assertIs(type(told), list)
        self.assertEqual(len(told), len(levers))
        for place, paper in enumerate(told):
            nothing = (0,) * len(sizes)
            self.assertIs(paper.shows(smaller, nothing, levers[place]), True)
            self.assertIs(type(paper), Way if levers[place] in forms else Bar)
            if type(paper) is Way:
                self.assertTrue(is_pulls(smaller, paper.pulls))
                self.assertEqual(turned(smaller, nothing, paper.pulls), levers[place])
            if bits >> place & 1:
                self.assertIs(type(paper), Way)
        same = doings(sizes, some) == doings(sizes, levers)
        self.assertEqual(all(paper.brings() for paper in told), same)

    def test_small_vaults_gone_through(self):
        for sizes, levers in VAULTS:
            for bits in range(2 ** len(levers)):
                self.check(sizes, levers, bits)

    def test_told_values(self):
        vault = Vault([12], [[8], [6], [4], [0]])
        self.assertEqual([paper.brings() for paper in enough(vault, 0)], [False, False, False, True])
        self.assertEqual([paper.brings() for paper in enough(vault, 1)], [True, False, True, True])
        self.assertEqual([paper.brings() for paper in enough(vault, 2)], [False, True, False, True])
        self.assertEqual([paper.brings() for paper in enough(vault, 3)], [True] * 4)
        self.assertEqual([len(paper.pulls) for paper in enough(vault, 7)], [3] * 4)
        self.assertEqual(enough(Vault([12], []), 0), [])

    def test_the_list_is_the_askers_own(self):
        vault = Vault([12], [[8], [6]])
        words = [paper.words() for paper in enough(vault, 1)]
        enough(vault, 1).clear()
        told = enough(vault, 1)
        told.reverse()
        self.assertEqual([paper.words() for paper in enough(vault, 1)], words)


class Needless(unittest.TestCase):
    def test_told_values(self):
        for sizes, levers, told in (
            ([12], [], 0), ([12], [[0]], 1), ([12], [[1]], 0), ([12], [[1], [1]], 3), ([12], [[8], [6]], 0),
            ([12], [[8], [6], [0]], 4), ([12], [[8], [4], [6]], 3), ([12], [[1], [8], [6]], 6),
            ([12], [[2], [8], [6]], 7), ([2, 2], [[1, 0], [0, 1], [1, 1]], 7), ([5], [[1]] * 8, 255),
            ([2] * 6, [[int(k == j) for k in range(6)] for j in range(6)], 0), ([5, 5], [[1, 0]] + [[0, 1]] * 7, 254),
        ):
            self.assertEqual(needless(Vault(sizes, levers)), told, (sizes, levers))
            self.assertIs(type(needless(Vault(sizes, levers))), int)

    def test_small_vaults_gone_through(self):
        for sizes, levers in VAULTS:
            right = 0
            for place, lever in enumerate(levers):
                if lever in doings(sizes, levers[:place] + levers[place + 1:]):
                    right += 2 ** place
            self.assertEqual(needless(Vault(sizes, levers)), right, (sizes, levers))

    def test_a_pick_that_does_the_same_has_all_the_others(self):
        for sizes, levers in VAULTS:
            needed = 2 ** len(levers) - 1 - needless(Vault(sizes, levers))
            for bits in picks_that_do(sizes, levers):
                self.assertEqual(bits & needed, needed)


class FewestLevers(unittest.TestCase):
    def test_told_values(self):
        for sizes, levers, told in (
            ([12], [], 0), ([12], [[0]], 0), ([12], [[0]] * 8, 0), ([12], [[1]], 1), ([12], [[1], [1]], 1),
            ([12], [[0], [1], [1]], 2), ([12], [[8], [6]], 3), ([12], [[8], [6], [2]], 4), ([12], [[8], [6], [2], [10]], 4),
            ([12], [[8], [4], [6]], 5), ([2, 2], [[1, 0], [0, 1], [1, 1]], 3), ([2, 2], [[0, 0], [1, 0], [0, 1], [1, 1]], 6),
            ([6], [[2], [3], [4], [1]], 8), ([30], [[6], [10], [15], [3], [5]], 10), ([5], [[0]] * 7 + [[1]], 128),
            # The least number of all that do is 7, but with the fewest levers it is 12.
            ([30, 7], [[6, 0], [10, 0], [15, 1], [1, 0], [0, 1]], 12),
        ):
            self.assertEqual(fewest_levers(Vault(sizes, levers)), told, (sizes, levers))
            self.assertIs(type(fewest_levers(Vault(sizes, levers))), int)

    def test_small_vaults_gone_through(self):
        for sizes, levers in VAULTS:
            right = min(picks_that_do(sizes, levers), key=lambda bits: (ones(bits), bits))
            self.assertEqual(fewest_levers(Vault(sizes, levers)), right, (sizes, levers))

    def test_eight_levers_gone_through(self):
        chance = random.Random(48)
        for sizes in ((12,), (2, 6), (2, 2, 3), (4, 4), (2, 2, 2, 2), (30,)):
            for _ in range(4):
                levers = tuple(tuple(chance.randrange(size) for size in sizes) for _ in range(8))
                right = min(picks_that_do(sizes, levers), key=lambda bits: (ones(bits), bits))
                self.assertEqual(fewest_levers(Vault(sizes, levers)), right, (sizes, levers))

    def test_large_vaults(self):
        chance = random.Random(49)
        sizes = (360, 240, 180, 144, 100, 64)
        for stride in (1, 2, 12):
            levers = [tuple(stride * chance.randrange(size) % size for size in sizes) for _ in range(8)]
            vault = Vault(sizes, levers)
            told = fewest_levers(vault)
            self.assertIs(does_as(picked(vault, told), vault), True)
            for bits in range(256):
                if (ones(bits), bits) < (ones(told), told):
                    self.assertIs(does_as(picked(vault, bits), vault), False)

    def test_prices_do_not_matter(self):
        levers = [[1], [1], [0]]
        for prices in ([1, 1, 1], [1000, 1, 1], [1, 1000, 7]):
            self.assertEqual(fewest_levers(Vault([12], levers, prices)), 1)
            self.assertEqual(needless(Vault([12], levers, prices)), 7)


if __name__ == "__main__":
    unittest.main()
