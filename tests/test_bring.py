"""[36] the paper for two settings, and [7] that it is always just one of the two."""

import random
import unittest

from dialvault.errors import NoSetting
from dialvault.papers import Bar, Way
from dialvault.rungs import Rungs, bring
from dialvault.vault import Vault
from plain import BIG, SMALL, THINGS, Refused, doings, more_small, normal_forms, plus, reached, settings


class Bring(Refused):
    def check(self, vault, one, other, pulls):
        paper = bring(vault, one, other)
        self.assertIs(paper.shows(vault, one, other), True)
        if pulls is None:
            self.assertIs(type(paper), Bar)
            self.assertIs(type(paper.weights), tuple)
        else:
            self.assertIs(type(paper), Way)
            self.assertEqual(paper.pulls, pulls)
            self.assertIs(type(paper.pulls), tuple)

    def test_told_values(self):
        vault = Vault([12, 60, 7], [[1, 0, 0], [3, 30, 1]], [1, 5])
        self.check(vault, (0, 0, 0), (0, 0, 0), (0, 0))
        self.check(vault, (0, 0, 0), (1, 0, 0), (1, 0))
        self.check(vault, (1, 0, 0), (0, 0, 0), (11, 0))
        self.check(vault, (0, 0, 0), (3, 30, 1), (0, 1))
        self.check(vault, (3, 30, 1), (0, 0, 0), (6, 13))
        self.check(vault, (5, 5, 5), (5, 35, 5), (3, 7))
        self.check(vault, (0, 0, 0), (0, 1, 0), None)
        self.check(vault, (0, 1, 0), (0, 0, 0), None)
        self.check(vault, (0, 0, 0), (11, 31, 6), None)

    def test_every_two_settings_of_small_vaults(self):
        for sizes, levers in SMALL + more_small(36, 20, 36):
            if len(settings(sizes)) > 36:
                continue
            vault = Vault(sizes, levers)
            forms = normal_forms(sizes, levers)
            for one in settings(sizes):
                for other in settings(sizes):
                    told = forms.get(plus(sizes, other, one, -1))
                    self.check(vault, one, other, told and told[0])

    def test_from_one_setting_to_all_others(self):
        for sizes, levers in SMALL + more_small(37, 20, 200):
            vault = Vault(sizes, levers)
            forms = normal_forms(sizes, levers)
            one = settings(sizes)[len(settings(sizes)) * 2 // 3]
            for other in settings(sizes):
                told = forms.get(plus(sizes, other, one, -1))
                self.check(vault, one, other, told and told[0])

    def test_a_setting_with_itself(self):
        for sizes, levers in SMALL:
            for one in settings(sizes)[:20]:
                self.check(Vault(sizes, levers), one, one, (0,) * len(levers))

    def test_without_levers(self):
        vault = Vault([4, 6], [])
        for one in settings((4, 6)):
            for other in settings((4, 6)):
                self.check(vault, one, other, () if one == other else None)

    def test_large_vaults(self):
        chance = random.Random(36)
        sizes = (360, 359, 240, 144, 90, 64)
        ways = 0
        bars = 0
        for stride in (1, 2, 3, 12, 30):
            for count in (1, 4, 8):
                levers = [tuple(stride * chance.randrange(size) % size for size in sizes) for _ in range(count)]
                vault = Vault(sizes, levers)
                one = tuple(chance.randrange(size) for size in sizes)
                pulls = tuple(chance.randrange(-BIG, BIG) for _ in levers)
                near = reached(sizes, one, levers, pulls)
                self.check(vault, one, near, Rungs(vault).pulls_to(plus(sizes, near, one, -1)))
                far = tuple(chance.randrange(size) for size in sizes)
                paper = bring(vault, one, far)
                self.assertIs(paper.shows(vault, one, far), True)
                ways += type(paper) is Way
                bars += type(paper) is Bar
        self.assertTrue(ways + bars == 15 and bars > 0)

    def test_it_brings_just_where_they_belong_together(self):
        for sizes, levers in SMALL:
            done = doings(sizes, levers)
            for other in settings(sizes):
                self.assertIs(bring(Vault(sizes, levers), (0,) * len(sizes), other).brings(), other in done)

    def test_no_setting(self):
        vault = Vault([12, 60, 7], [[1, 0, 0], [3, 30, 1]])
        for thing in THINGS + [(12, 0, 0), (0, -1, 0), (0, 0, 7), (0, True, 0)]:
            self.refused(NoSetting, bring, vault, thing, (0, 0, 0))
            self.refused(NoSetting, bring, vault, (0, 0, 0), thing)
            self.refused(NoSetting, bring, vault, thing, thing)

    def test_told_again_the_same(self):
        for other in ((0, 1, 0), (3, 30, 1), (7, 7, 2)):
            one = bring(Vault([12, 60, 7], [[2, 0, 0], [3, 30, 1]]), (0, 0, 0), other)
            two = bring(Vault((12, 60, 7), ((14, 60, -7), (3, -30, 8))), (0, 0, 0), other)
            self.assertEqual(one.words(), two.words())


if __name__ == "__main__":
    unittest.main()
