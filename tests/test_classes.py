"""[40] how many belong together, [41] the least of a class, [42] all of a class, [43] the normal form of pulls."""

import itertools
import math
import unittest

from dialvault.classes import all_together, belong, class_count, least_of, normal, together_count
from dialvault.errors import NoPulls, NoSetting, TooMany
from dialvault.vault import Vault, turned
from plain import (
    BIG, NO_NUMBERS, SMALL, THINGS, Refused, doings, more_small, normal_forms, plus, reached, settings, spans,
)

VAULTS = SMALL + more_small(40, 40, 150)
BEYOND = [(12, 0, 0), (0, 60, 0), (0, 0, 7), (-1, 0, 0), (0, 0, True), (False, 0, 0), (0, BIG, 0)]


def clock():
    return Vault([12, 60, 7], [[1, 0, 0], [3, 30, 1]], [1, 5])


# A vault of just so many doings that all its settings belong together.
def whole(sizes):
    return Vault(sizes, [[int(k == j) for k in range(len(sizes))] for j in range(len(sizes))])


def classes_of(sizes, levers):
    done = doings(sizes, levers)
    return {frozenset(plus(sizes, setting, doing) for doing in done) for setting in settings(sizes)}


class Counts(unittest.TestCase):
    def test_told_values(self):
        for vault, together, classes in (
            (Vault([12], []), 1, 12), (Vault([12], [[0]]), 1, 12), (Vault([12], [[8]]), 3, 4), (Vault([12], [[5]]), 12, 1),
            (Vault([4, 6], [[1, 1]]), 12, 2), (Vault([4, 6], [[1, 1], [1, 1]]), 12, 2), (clock(), 168, 30),
            (Vault([360] * 6, []), 1, 360 ** 6), (whole([360] * 6), 360 ** 6, 1),
            (Vault([360] * 6, [[1] * 6] * 8), 360, 360 ** 5),
        ):
            self.assertEqual((together_count(vault), class_count(vault)), (together, classes))
            self.assertEqual((type(together_count(vault)), type(class_count(vault))), (int, int))

    def test_small_vaults_gone_through(self):
        for sizes, levers in VAULTS:
            vault = Vault(sizes, levers)
            self.assertEqual(together_count(vault), len(doings(sizes, levers)))
            self.assertEqual(class_count(vault), len(classes_of(sizes, levers)))
            self.assertEqual(together_count(vault) * class_count(vault), math.prod(sizes))


class LeastOf(Refused):
    def test_told_values(self):
        for setting, told in (
            ((0, 0, 0), (0, 0, 0)), ((11, 59, 6), (0, 29, 0)), ((5, 30, 3), (0, 0, 0)), ((0, 29, 0), (0, 29, 0)),
        ):
            self.assertEqual(least_of(clock(), setting), told)
        self.assertEqual(least_of(Vault([4, 6], [[1, 1]]), (3, 0)), (0, 1))

    def test_small_vaults_gone_through(self):
        for sizes, levers in VAULTS:
            vault = Vault(sizes, levers)
            for together in classes_of(sizes, levers):
                told = {least_of(vault, setting) for setting in together}
                self.assertEqual(told, {min(together)})

    def test_no_setting(self):
        for thing in THINGS + BEYOND:
            self.refused(NoSetting, least_of, clock(), thing)


class Belong(Refused):
    def test_told_values(self):
        self.assertIs(belong(clock(), (0, 0, 0), (0, 30, 0)), True)
        self.assertIs(belong(clock(), (0, 30, 0), (7, 0, 3)), True)
        self.assertIs(belong(clock(), (0, 0, 0), (0, 29, 0)), False)
        self.assertIs(belong(clock(), (5, 5, 5), (5, 5, 5)), True)

    def test_small_vaults_gone_through(self):
        for sizes, levers in SMALL + more_small(41, 20, 40):
            if len(settings(sizes)) > 40:
                continue
            vault = Vault(sizes, levers)
            done = doings(sizes, levers)
            for one in settings(sizes):
                for other in settings(sizes):
                    told = belong(vault, one, other)
                    self.assertIs(told, plus(sizes, other, one, -1) in done)
                    self.assertEqual(told, least_of(vault, one) == least_of(vault, other))

    def test_no_setting(self):
        for thing in THINGS + BEYOND:
            self.refused(NoSetting, belong, clock(), thing, (0, 0, 0))
            self.refused(NoSetting, belong, clock(), (0, 0, 0), thing)
            self.refused(NoSetting, belong, clock(), thing, thing)


class AllTogether(Refused):
    def test_told_values(self):
        self.assertEqual(all_together(Vault([4, 6], []), (3, 5)), [(3, 5)])
        self.assertEqual(all_together(Vault([4, 6], [[2, 3]]), (3, 5)), [(1, 2), (3, 5)])
        self.assertEqual(all_together(Vault([4, 6], [[2, 3]] * 3), (1, 2)), [(1, 2), (3, 5)])
        self.assertEqual(all_together(Vault([6], [[4]]), (5,)), [(1,), (3,), (5,)])

    def test_small_vaults_gone_through(self):
        for sizes, levers in VAULTS:
            vault = Vault(sizes, levers)
            for together in classes_of(sizes, levers):
                for setting in (min(together), max(together)):
                    told = all_together(vault, setting)
                    self.assertIs(type(told), list)
                    self.assertEqual(told, sorted(together))
                    self.assertEqual({type(one) for one in told}, {tuple})

    def test_just_1024(self):
        for sizes in ((32, 32), (4, 4, 4, 4, 4), (256, 4), (8, 128), (2, 2, 2, 2, 2, 32)):
            last = tuple(size - 1 for size in sizes)
            self.assertEqual(all_together(whole(sizes), last), settings(sizes))

    def test_1024_of_many_more(self):
        sizes = (64, 32, 360)
        told = all_together(Vault(sizes, [[2, 1, 0], [0, 1, 0]]), (1, 1, 1))
        self.assertEqual(told, sorted((notch, other, 1) for notch in range(1, 64, 2) for other in range(32)))
        self.assertEqual(len(told), 1024)

    def test_more_than_1024(self):
        for vault in (
            whole((25, 41)), whole((27, 38)), whole((32, 33)), whole((33, 32)), whole((360, 3)), whole((360,) * 6),
            Vault([25, 41], [[1, 1]]), Vault([360, 359], [[1, 1]]), Vault([64, 64], [[1, 0], [0, 2]]),
        ):
            count = len(vault.sizes())
            self.assertGreater(together_count(vault), 1024)
            self.refused(TooMany, all_together, vault, (0,) * count)
            self.refused(TooMany, all_together, vault, (1,) * count)

    def test_no_setting_goes_ahead_of_too_many(self):
        for thing in THINGS + BEYOND:
            self.refused(NoSetting, all_together, clock(), thing)
        for thing in (None, [0, 0], (0,), (360, 0), (0, True), (0, 0, 0)):
            self.refused(NoSetting, all_together, whole((360, 360)), thing)

    def test_the_list_is_the_askers_own(self):
        vault = Vault([4, 6], [[2, 3]])
        all_together(vault, (0, 0)).clear()
        told = all_together(vault, (0, 0))
        told.append(None)
        self.assertEqual(all_together(vault, (0, 0)), [(0, 0), (2, 3)])


class Normal(Refused):
    def test_told_values(self):
        for pulls, told in (
            ((0, 0), (0, 0)), ((1, 0), (1, 0)), ((12, 0), (0, 0)), ((-1, 0), (11, 0)), ((0, 14), (6, 0)),
            ((0, -1), (6, 13)), ((6, 14), (0, 0)), ((11, 13), (11, 13)), ((0, 28), (0, 0)),
        ):
            self.assertEqual(normal(clock(), pulls), told)
            self.assertIs(type(normal(clock(), pulls)), tuple)

    def test_small_vaults_gone_through(self):
        for sizes, levers in VAULTS:
            if len(levers) > 4:
                continue
            vault = Vault(sizes, levers)
            forms = normal_forms(sizes, levers)
            for pulls in itertools.product((-7, -1, 0, 2, 5), repeat=len(levers)):
                doing = reached(sizes, (0,) * len(sizes), levers, pulls)
                self.assertEqual([normal(vault, pulls)], forms[doing])

    def test_what_is_in_normal_form_stays(self):
        for sizes, levers in SMALL:
            for pulls in itertools.product(*[range(span) for span in spans(sizes, levers)]):
                self.assertEqual(normal(Vault(sizes, levers), pulls), pulls)

    def test_thirty_figures(self):
        for pulls in ((BIG, -BIG), (-BIG, BIG), (10 ** 30 - 1, 1 - 10 ** 30)):
            told = normal(clock(), pulls)
            self.assertTrue(0 <= told[0] < 12 and 0 <= told[1] < 14)
            self.assertEqual(turned(clock(), (0, 0, 0), told), turned(clock(), (0, 0, 0), pulls))

    def test_without_levers(self):
        self.assertEqual(normal(Vault([4, 6], []), ()), ())
        self.refused(NoPulls, normal, Vault([4, 6], []), (0,))

    def test_no_pulls(self):
        for thing in THINGS + [(0, 0, 0), [0, 0], (1,)]:
            self.refused(NoPulls, normal, clock(), thing)
        for thing in NO_NUMBERS:
            self.refused(NoPulls, normal, clock(), (thing, 0))
            self.refused(NoPulls, normal, clock(), (0, thing))


if __name__ == "__main__":
    unittest.main()
