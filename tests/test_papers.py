"""[30] weigh, and [4] what weights weigh; [31] papers."""

import itertools
import unittest

from dialvault.errors import NoSetting
from dialvault.papers import Bar, Paper, Way, weigh
from dialvault.vault import Vault
from plain import BIG, SMALL, THINGS, Refused, more_small, plus, reached, settings, stills, weight_of

BEYOND = [(12, 0, 0), (0, 60, 0), (0, 0, 7), (-1, 0, 0), (0, 0, True), (False, 0, 0), (0, BIG, 0), (0, None, 0)]


def clock():
    return Vault([12, 60, 7], [[1, 0, 0], [3, 30, 1]], [1, 5])


class Weigh(Refused):
    def test_told_values(self):
        for weights, setting, told in (
            ((0, 0, 0), (11, 59, 6), 0), ((1, 0, 0), (1, 0, 0), 35), ((0, 1, 0), (0, 1, 0), 7),
            ((0, 0, 1), (0, 0, 1), 60), ((1, 1, 1), (1, 1, 1), 102), ((11, 59, 6), (11, 59, 6), 102),
            ((6, 0, 0), (2, 59, 6), 0), ((6, 0, 0), (3, 59, 6), 210), ((0, 2, 0), (1, 30, 3), 0),
        ):
            self.assertEqual(weigh(clock(), weights, setting), told)
            self.assertIs(type(weigh(clock(), weights, setting)), int)

    def test_small_vaults_gone_through(self):
        for sizes, levers in SMALL + more_small(30, 10, 60):
            if len(settings(sizes)) > 64:
                continue
            vault = Vault(sizes, levers)
            for weights in settings(sizes):
                for setting in settings(sizes):
                    told = weigh(vault, weights, setting)
                    self.assertEqual(told, weight_of(sizes, weights, setting))
                    self.assertTrue(0 <= told < vault.around())

    def test_no_setting(self):
        for thing in THINGS + BEYOND:
            self.refused(NoSetting, weigh, clock(), thing, (0, 0, 0))
            self.refused(NoSetting, weigh, clock(), (0, 0, 0), thing)
            self.refused(NoSetting, weigh, clock(), thing, thing)


class PlainPaper(Refused):
    def test_it_tells_nothing(self):
        paper = Paper()
        self.assertIs(paper.brings(), False)
        self.assertEqual(paper.words(), ())
        self.assertIs(type(paper.words()), tuple)
        for one in ((0, 0, 0), (1, 0, 0), (11, 59, 6)):
            for other in ((0, 0, 0), (1, 0, 0), (5, 5, 5)):
                self.assertIs(paper.shows(clock(), one, other), False)


class Refusals(Refused):
    def test_no_setting_whatever_the_paper_is_made_of(self):
        papers = [Paper(), Way((0, 0)), Way((1, -1)), Way(None), Bar((0, 0, 0)), Bar((0, 2, 0)), Bar(None), Bar([0, 0, 0])]
        for paper in papers:
            for thing in THINGS + BEYOND:
                self.refused(NoSetting, paper.shows, clock(), thing, (0, 0, 0))
                self.refused(NoSetting, paper.shows, clock(), (0, 0, 0), thing)
                self.refused(NoSetting, paper.shows, clock(), thing, thing)


class Ways(unittest.TestCase):
    def test_what_it_tells(self):
        way = Way((1, -2))
        self.assertIsInstance(way, Paper)
        self.assertNotIsInstance(way, Bar)
        self.assertIs(way.brings(), True)
        self.assertEqual(way.pulls, (1, -2))
        self.assertEqual(way.words(), ("pulls", (1, -2)))
        self.assertIs(type(way.words()), tuple)

    def test_shows_where_the_pulls_lead(self):
        for pulls, one, other in (
            ((0, 0), (5, 5, 5), (5, 5, 5)), ((1, 0), (0, 0, 0), (1, 0, 0)), ((0, 1), (0, 0, 0), (3, 30, 1)),
            ((2, -1), (0, 0, 0), (11, 30, 6)), ((-1, 0), (0, 7, 0), (11, 7, 0)), ((12, 14), (1, 2, 3), (7, 2, 3)),
            ((12 * BIG, 28 * BIG), (1, 2, 3), (1, 2, 3)), ((-12 * BIG - 1, 0), (1, 2, 3), (0, 2, 3)),
        ):
            self.assertIs(Way(pulls).shows(clock(), one, other), True)
            self.assertIs(Way(pulls).shows(clock(), one, plus((12, 60, 7), other, (0, 1, 0))), False)
            self.assertIs(Way(pulls).shows(clock(), one, plus((12, 60, 7), other, (1, 0, 0))), False)

    def test_it_leads_from_the_one_to_the_other(self):
        self.assertIs(Way((1, 0)).shows(clock(), (1, 0, 0), (2, 0, 0)), True)
        self.assertIs(Way((1, 0)).shows(clock(), (2, 0, 0), (1, 0, 0)), False)

    def test_small_vaults_gone_through(self):
        for sizes, levers in SMALL:
            if len(levers) > 3 or len(settings(sizes)) > 40:
                continue
            vault = Vault(sizes, levers)
            for pulls in itertools.product((-2, 0, 1), repeat=len(levers)):
                for one in settings(sizes):
                    there = reached(sizes, one, levers, pulls)
                    for other in settings(sizes):
                        self.assertIs(Way(pulls).shows(vault, one, other), other == there)

    def test_without_levers(self):
        vault = Vault([4, 6], [])
        self.assertIs(Way(()).shows(vault, (1, 2), (1, 2)), True)
        self.assertIs(Way(()).shows(vault, (1, 2), (1, 3)), False)
        self.assertIs(Way((0,)).shows(vault, (1, 2), (1, 2)), False)

    def test_made_of_any_thing(self):
        things = THINGS + [(0, 0, 0), (True, 0), (0, False), (False, False), (None, 0), ("0", 0), ((0,), 0), [0, 0]]
        for thing in things:
            way = Way(thing)
            self.assertIs(way.pulls, thing)
            self.assertIs(way.brings(), True)
            self.assertIs(way.shows(clock(), (0, 0, 0), (0, 0, 0)), False)
            self.assertEqual(way.words()[0], "pulls")

    def test_lists_are_not_changed(self):
        thing = [1, 0]
        way = Way(thing)
        self.assertIs(way.shows(clock(), (0, 0, 0), (1, 0, 0)), False)
        self.assertEqual(way.words(), ("pulls", [1, 0]))
        self.assertEqual(thing, [1, 0])
        self.assertIs(way.pulls, thing)


class Bars(unittest.TestCase):
    def test_what_it_tells(self):
        bar = Bar((0, 2, 0))
        self.assertIsInstance(bar, Paper)
        self.assertNotIsInstance(bar, Way)
        self.assertIs(bar.brings(), False)
        self.assertEqual(bar.weights, (0, 2, 0))
        self.assertEqual(bar.words(), ("weights", (0, 2, 0)))
        self.assertIs(type(bar.words()), tuple)

    def test_told_values(self):
        for weights, one, other, told in (
            ((0, 2, 0), (0, 0, 0), (0, 1, 0), True), ((0, 2, 0), (0, 1, 0), (0, 0, 0), True),
            ((0, 2, 0), (0, 0, 0), (0, 30, 0), False), ((0, 2, 0), (5, 7, 3), (9, 37, 1), False),
            ((0, 2, 0), (5, 7, 3), (9, 36, 1), True), ((0, 4, 0), (0, 0, 0), (0, 15, 0), False),
            ((0, 1, 0), (0, 0, 0), (0, 1, 0), False), ((1, 0, 0), (0, 0, 0), (0, 1, 0), False),
            ((1, 0, 0), (0, 0, 0), (1, 0, 0), False), ((0, 0, 0), (0, 0, 0), (0, 1, 0), False),
            ((0, 2, 0), (3, 3, 3), (3, 3, 3), False),
        ):
            self.assertIs(Bar(weights).shows(clock(), one, other), told, (weights, one, other))

    def test_small_vaults_gone_through(self):
        for sizes, levers in SMALL + more_small(31, 10, 24):
            if len(settings(sizes)) > 27:
                continue
            vault = Vault(sizes, levers)
            still = stills(sizes, levers)
            for weights in settings(sizes):
                for one in settings(sizes):
                    for other in settings(sizes):
                        shown = weights in still and weight_of(sizes, weights, plus(sizes, other, one, -1)) != 0
                        self.assertIs(Bar(weights).shows(vault, one, other), shown)

    def test_made_of_any_thing(self):
        for thing in THINGS + BEYOND + [(0, 62, 0), (12, 2, 0), (0, -58, 0), [0, 2, 0], (0, 2), (0, 2, 0, 0), (0, 2, False)]:
            bar = Bar(thing)
            self.assertIs(bar.weights, thing)
            self.assertIs(bar.brings(), False)
            self.assertIs(bar.shows(clock(), (0, 0, 0), (0, 1, 0)), False)
            self.assertEqual(bar.words()[0], "weights")

    def test_lists_are_not_changed(self):
        thing = [0, 2, 0]
        bar = Bar(thing)
        self.assertIs(bar.shows(clock(), (0, 0, 0), (0, 1, 0)), False)
        self.assertEqual(bar.words(), ("weights", [0, 2, 0]))
        self.assertEqual(thing, [0, 2, 0])


class Never(unittest.TestCase):
    def test_a_way_and_a_bar_never_show_of_the_same_two(self):
        for sizes, levers in SMALL:
            if len(levers) > 3 or len(settings(sizes)) > 40:
                continue
            vault = Vault(sizes, levers)
            ways = [Way(pulls) for pulls in itertools.product(range(3), repeat=len(levers))]
            bars = [Bar(weights) for weights in settings(sizes)]
            for one in (settings(sizes)[0], settings(sizes)[-1]):
                for other in settings(sizes):
                    led = any([way.shows(vault, one, other) for way in ways])
                    barred = any([bar.shows(vault, one, other) for bar in bars])
                    self.assertFalse(led and barred, (sizes, levers, one, other))

    def test_shows_the_same_again(self):
        for paper in (Way((1, 0)), Bar((0, 2, 0))):
            asked = [paper.shows(clock(), (0, 0, 0), other) for other in ((1, 0, 0), (0, 1, 0)) * 2]
            self.assertEqual(asked[:2], asked[2:])


if __name__ == "__main__":
    unittest.main()
