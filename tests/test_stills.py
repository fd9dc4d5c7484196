"""[50] clear vaults, [51] still weights, [52] still vaults, [53] still weights as sums of step weights."""

import itertools
import math
import random
import unittest

import plain
from dialvault.classes import class_count, does_as, together_count
from dialvault.errors import NoSetting, TooMany
from dialvault.rungs import Rungs
from dialvault.stills import all_stills, clear, is_still, stills, written
from dialvault.vault import Vault
from plain import (
    BIG, SMALL, THINGS, Refused, clear_told, doings, large_vaults, more_small, plus, settings, told, weight_of,
)

VAULTS = SMALL + more_small(50, 40, 150)
LARGE = large_vaults()


def clock():
    return Vault([12, 60, 7], [[1, 0, 0], [3, 30, 1]], [1, 5])


def plain_prices(levers):
    return (1,) * len(levers)


class Clear(unittest.TestCase):
    def test_told_values(self):
        for sizes, levers, cleared in (
            ([12], [], ()), ([12], [[0]], ()), ([12], [[8]], ((4,),)), ([12], [[8], [6]], ((2,),)),
            ([12], [[5]], ((1,),)), ([4, 6], [[1, 1]], ((1, 1), (0, 2))), ([4, 6], [[2, 3]], ((2, 3),)),
            ([12, 60, 7], [[1, 0, 0], [3, 30, 1]], ((1, 0, 0), (0, 30, 0), (0, 0, 1))),
            ([4, 6, 5], [[0, 0, 2]], ((0, 0, 1),)), ([4, 6, 5], [[0, 3, 0], [2, 0, 0]], ((2, 0, 0), (0, 3, 0))),
        ):
            self.assertEqual(told(clear(Vault(sizes, levers))), (tuple(sizes), cleared, plain_prices(cleared)))

    def test_small_vaults_gone_through(self):
        for sizes, levers in VAULTS:
            self.assertEqual(told(clear(Vault(sizes, levers))), clear_told(sizes, doings(sizes, levers)))

    def test_prices_are_left_behind(self):
        vault = Vault([12, 7], [[1, 0], [0, 1]], [7, 1000])
        self.assertEqual(told(clear(vault)), ((12, 7), ((1, 0), (0, 1)), (1, 1)))
        self.assertEqual(vault.prices(), (7, 1000))

    def test_vaults_that_do_the_same_have_the_same_one(self):
        chance = random.Random(50)
        for sizes, levers in VAULTS:
            drawn = [chance.sample(sorted(doings(sizes, levers)), 1)[0] for _ in range(3)]
            one = Vault(sizes, levers)
            other = Vault(sizes, (list(reversed(levers)) + drawn)[:8])
            self.assertEqual(clear(one).levers(), clear(other).levers())
            fewer = Vault(sizes, drawn)
            self.assertEqual(clear(one).levers() == clear(fewer).levers(), does_as(one, fewer))

    def test_large_vaults(self):
        for sizes, levers in LARGE:
            vault = Vault(sizes, levers)
            cleared = clear(vault)
            self.assertEqual(cleared.sizes(), sizes)
            self.assertEqual(cleared.levers(), tuple(row for row in Rungs(vault).rows() if any(row)))
            self.assertEqual(cleared.prices(), plain_prices(cleared.levers()))
            self.assertIs(does_as(cleared, vault), True)
            self.assertEqual(told(clear(cleared)), told(cleared))
            self.assertEqual(told(clear(Vault(sizes, list(reversed(levers))))), told(cleared))


class IsStill(unittest.TestCase):
    def test_told_values(self):
        vault = Vault([4, 6], [[1, 1]])
        for weights, right in (((0, 0), True), ((2, 3), True), ((1, 0), False), ((2, 0), False), ((0, 3), False)):
            self.assertIs(is_still(vault, weights), right)
        self.assertIs(is_still(clock(), (0, 2, 0)), True)
        self.assertIs(is_still(clock(), (0, 58, 0)), True)
        self.assertIs(is_still(clock(), (0, 1, 0)), False)

    def test_small_vaults_gone_through(self):
        for sizes, levers in VAULTS:
            vault = Vault(sizes, levers)
            for weights in settings(sizes):
                right = all(weight_of(sizes, weights, lever) == 0 for lever in levers)
                self.assertIs(is_still(vault, weights), right)

    def test_of_any_thing(self):
        unmoved = Vault([12, 60, 7], [])
        beyond = [
            (12, 0, 0), (0, 60, 0), (0, 0, 7), (-1, 0, 0), (0, -60, 0), (0, 0, BIG), (True, 0, 0), (0, False, 0),
            (0, 0, None), (0, 0, "0"), [0, 0, 0], (0, 0), (0, 0, 0, 0), (0.0, 0, 0), ((0,), 0, 0),
        ]
        for thing in THINGS + beyond:
            self.assertIs(is_still(clock(), thing), False)
            self.assertIs(is_still(unmoved, thing), False)
        self.assertIs(is_still(unmoved, (11, 59, 6)), True)
        self.assertIs(is_still(unmoved, (0, 0, 0)), True)

    def test_sums_and_times_are_still(self):
        for sizes, levers in LARGE:
            vault = Vault(sizes, levers)
            total = (0,) * 6
            for dial in range(6):
                weights = Rungs(vault).weights_at(dial)
                self.assertIs(is_still(vault, weights), True)
                total = plus(sizes, total, weights, 10 ** 29 + 7 * dial)
                self.assertIs(is_still(vault, total), True)


class AllStills(Refused):
    def test_told_values(self):
        self.assertEqual(all_stills(Vault([4, 6], [[1, 1]])), [(0, 0), (2, 3)])
        self.assertEqual(all_stills(Vault([4], [])), [(0,), (1,), (2,), (3,)])
        self.assertEqual(all_stills(Vault([4], [[1]])), [(0,)])
        self.assertEqual(all_stills(Vault([12], [[8]])), [(0,), (3,), (6,), (9,)])
        self.assertEqual(all_stills(clock()), [(0, weight, 0) for weight in range(0, 60, 2)])

    def test_small_vaults_gone_through(self):
        for sizes, levers in VAULTS:
            vault = Vault(sizes, levers)
            listed = all_stills(vault)
            self.assertEqual(listed, plain.stills(sizes, levers))
            self.assertIs(type(listed), list)
            self.assertTrue(all(type(weights) is tuple for weights in listed))
            self.assertEqual(len(listed), class_count(vault))

    def test_just_as_many_as_are_gone_through(self):
        for sizes in ((32, 32), (4, 256), (2, 2, 4, 4, 4, 4)):
            listed = all_stills(Vault(sizes, []))
            self.assertEqual(listed, settings(sizes))
            self.assertEqual(len(listed), 1024)
        self.assertEqual(len(all_stills(Vault([360, 32], [[0, 1], [45, 0], [40, 0]]))), 5)
        self.assertEqual(len(all_stills(Vault([64, 32], [[32, 0]]))), 1024)

    def test_too_many(self):
        self.refused(TooMany, all_stills, Vault([25, 41], []))
        self.refused(TooMany, all_stills, Vault([32, 33], []))
        self.refused(TooMany, all_stills, Vault([64, 32], [[0, 0]]))
        self.refused(TooMany, all_stills, Vault([205, 10], [[0, 5]]))
        self.refused(TooMany, all_stills, Vault([360] * 6, []))
        self.refused(TooMany, all_stills, Vault([360] * 6, [[1] * 6] * 8))

    def test_the_list_is_the_askers_own(self):
        vault = Vault([4, 6], [[1, 1]])
        first = all_stills(vault)
        first.append(7)
        first[0] = None
        self.assertEqual(all_stills(vault), [(0, 0), (2, 3)])


class Stills(unittest.TestCase):
    def test_told_values(self):
        for sizes, levers, right in (
            ([12], [], ((1,),)), ([12], [[1]], ()), ([12], [[8]], ((3,),)), ([4, 6], [[1, 1]], ((2, 3),)),
            ([4, 6], [], ((1, 0), (0, 1))), ([4, 6], [[2, 3]], ((1, 1), (0, 2))),
            ([12, 60, 7], [[1, 0, 0], [3, 30, 1]], ((0, 2, 0),)),
        ):
            self.assertEqual(told(stills(Vault(sizes, levers))), (tuple(sizes), right, plain_prices(right)))

    def test_small_vaults_gone_through(self):
        for sizes, levers in VAULTS:
            still = stills(Vault(sizes, levers, [9] * len(levers)))
            self.assertEqual(told(still), clear_told(sizes, plain.stills(sizes, levers)))
            self.assertEqual(sorted(doings(sizes, still.levers())), plain.stills(sizes, levers))

    def test_what_still_weights_leave_still_is_what_levers_do(self):
        for sizes, levers in VAULTS:
            still = stills(Vault(sizes, levers))
            self.assertEqual(plain.stills(sizes, still.levers()), sorted(doings(sizes, levers)))
            self.assertEqual(all_stills(still), sorted(doings(sizes, levers)))

    def test_the_still_vault_of_the_still_vault(self):
        for sizes, levers in VAULTS + LARGE:
            vault = Vault(sizes, levers)
            self.assertEqual(told(stills(stills(vault))), told(clear(vault)))

    def test_large_vaults_by_sums(self):
        for sizes, levers in LARGE:
            vault = Vault(sizes, levers)
            still = stills(vault)
            for weights in still.levers():
                self.assertTrue(all(weight_of(sizes, weights, lever) == 0 for lever in levers))
            self.assertEqual(told(clear(still)), told(still))
            self.assertEqual(together_count(still), class_count(vault))
            self.assertEqual(together_count(vault) * together_count(still), math.prod(sizes))

    def test_told_again_the_same(self):
        one = Vault([12, 60, 7], [[1, 0, 0], [3, 30, 1]], [1, 5])
        other = Vault((12, 60, 7), ((13, 60, -7), (3, -30, 8)))
        for tells in (clear, stills):
            self.assertEqual(told(tells(one)), told(tells(other)))
            self.assertEqual(told(tells(one)), told(tells(one)))
        self.assertEqual(one.levers(), ((1, 0, 0), (3, 30, 1)))


class Written(Refused):
    def check(self, vault, times):
        sizes = vault.sizes()
        rungs = Rungs(vault)
        weights = (0,) * len(sizes)
        for dial, count in enumerate(times):
            weights = plus(sizes, weights, rungs.weights_at(dial), count)
        self.assertEqual(written(vault, weights), times)
        self.assertIs(type(written(vault, weights)), tuple)

    def test_told_values(self):
        self.assertEqual(written(clock(), (0, 0, 0)), (0, 0, 0))
        self.assertEqual(written(clock(), (0, 2, 0)), (0, 1, 0))
        self.assertEqual(written(clock(), (0, 58, 0)), (0, 29, 0))
        self.assertIsNone(written(clock(), (0, 1, 0)))
        self.assertIsNone(written(clock(), (1, 0, 0)))
        # The step weights are (2, 0) and (1, 1).
        self.assertEqual(written(Vault([4, 6], [[2, 3]]), (1, 1)), (0, 1))
        self.assertEqual(written(Vault([4, 6], [[2, 3]]), (3, 1)), (1, 1))
        self.assertEqual(written(Vault([4, 6], [[2, 3]]), (2, 2)), (0, 2))
        self.assertEqual(written(Vault([4, 6], []), (3, 5)), (3, 5))

    def test_all_times_on_small_vaults(self):
        for sizes, levers in VAULTS:
            vault = Vault(sizes, levers)
            for times in itertools.product(*[range(step) for step in Rungs(vault).steps()]):
                self.check(vault, times)

    def test_all_weights_on_small_vaults(self):
        for sizes, levers in VAULTS:
            vault = Vault(sizes, levers)
            still = plain.stills(sizes, levers)
            found = []
            for weights in settings(sizes):
                times = written(vault, weights)
                self.assertEqual(times is not None, weights in still)
                if times is not None:
                    found.append(times)
                    self.assertTrue(all(0 <= t < step for t, step in zip(times, Rungs(vault).steps())))
            self.assertEqual(len(set(found)), len(still))

    def test_drawn_times_on_large_vaults(self):
        chance = random.Random(53)
        for sizes, levers in LARGE:
            vault = Vault(sizes, levers)
            steps = Rungs(vault).steps()
            self.check(vault, (0,) * 6)
            self.check(vault, tuple(step - 1 for step in steps))
            for _ in range(4):
                self.check(vault, tuple(chance.randrange(step) for step in steps))
                weights = tuple(chance.randrange(size) for size in sizes)
                still = all(weight_of(sizes, weights, lever) == 0 for lever in levers)
                self.assertEqual(written(vault, weights) is not None, still)

    def test_no_setting(self):
        for thing in THINGS + [(12, 0, 0), (0, 60, 0), (0, 0, -1), (0, True, 0), [0, 2, 0]]:
            self.refused(NoSetting, written, clock(), thing)
            self.refused(NoSetting, written, Vault([12, 60, 7], []), thing)


if __name__ == "__main__":
    unittest.main()
