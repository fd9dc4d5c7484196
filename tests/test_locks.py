"""[65] locks and what fits a vault, [66] whether they are met and can be opened, [67] shares that bar."""

import itertools
import math
import random
import unittest

from dialvault.errors import NoLock, NoSetting, TooMany
from dialvault.locks import Lock, Shut, met, open_from
from dialvault.papers import Paper, Way
from dialvault.vault import Vault
from plain import (
    BIG, NO_NUMBERS, SIZES, SMALL, THINGS, Odd, Refused, doings, drawn_levers, more_small, plus, reached, settings,
)


def clock():
    return Vault([12, 60, 7], [[1, 0, 0], [3, 30, 1]], [1, 5])


def turn(lock, setting):
    return sum(factor * notch for factor, notch in zip(lock.factors, setting))


def meets(setting, locks):
    return all((turn(lock, setting) - lock.rest) % lock.number == 0 for lock in locks)


# Point 67, word by word.
def bars_by_hand(levers, setting, locks, shares):
    if not isinstance(shares, tuple) or len(shares) != len(locks):
        return False
    if not all(type(share) is int and 0 <= share < lock.number for share, lock in zip(shares, locks)):
        return False
    most = math.lcm(*[lock.number for lock in locks])
    worths = [share * (most // lock.number) for share, lock in zip(shares, locks)]
    for lever in levers:
        if sum(worth * turn(lock, lever) for worth, lock in zip(worths, locks)) % most != 0:
            return False
    return sum(worth * (lock.rest - turn(lock, setting)) for worth, lock in zip(worths, locks)) % most != 0


# A factor does where it is a multiple of the number divided by what it has in common with the dial's size.
def drawn_lock(chance, sizes, setting=None, numbers=(2, 3, 4, 5, 6, 8, 12, 360), far=0):
    number = chance.choice(numbers)
    units = [number // math.gcd(number, size) for size in sizes]
    factors = [unit * chance.randint(-9, 9) + far * unit * chance.randint(-1, 1) for unit in units]
    rest = chance.randint(-20, 20)
    if setting is not None:
        rest = sum(factor * notch for factor, notch in zip(factors, setting)) + number * chance.randint(-3, 3)
    return Lock(factors, number, rest)


# Sizes, levers, a setting and locks: some are such as a setting has, others are drawn by themselves.
def small_cases():
    chance = random.Random(66)
    found = []
    for sizes, levers in SMALL + more_small(66, 60, 120):
        for count in range(7):
            goal = chance.choice(settings(sizes)) if chance.random() < 0.5 else None
            locks = [drawn_lock(chance, sizes, goal) for _ in range(count)]
            found.append((sizes, levers, chance.choice(settings(sizes)), locks))
    return found


def large_cases():
    chance = random.Random(67)
    found = []
    for case in range(120):
        levers = drawn_levers(chance, SIZES, chance.randint(0, 8), chance.choice((1, 2, 6, 30)))
        start = tuple(chance.randrange(size) for size in SIZES)
        goal = reached(SIZES, start, levers, [chance.randint(-99, 99) for _ in levers]) if case % 2 == 0 else None
        numbers = (2, 7, 16, 64, 90, 240, 359, 360)
        locks = [drawn_lock(chance, SIZES, goal, numbers, 10 ** 27) for _ in range(chance.randint(1, 6))]
        found.append((SIZES, levers, start, locks))
    return found


class Made(unittest.TestCase):
    def test_the_fields_are_what_it_is_made_of(self):
        for factors, number, rest in (
            ((1, 2), 3, 4), ([1, 2], 3, -4), ([], 0, 0), (None, None, None), ("a", "b", "c"), (True, 2.5, [1]),
            ({1: 2}, {}, ()), (BIG, -BIG, BIG), ([[1], None], (), ""),
        ):
            lock = Lock(factors, number, rest)
            self.assertEqual((lock.factors, lock.number, lock.rest), (factors, number, rest))
            self.assertIs(type(lock.factors), type(factors))

    def test_a_list_that_is_changed_behind(self):
        factors = [1, 0, 0]
        lock = Lock(factors, 12, 5)
        factors[0] = 6
        factors.append(1)
        self.assertEqual(lock.factors, [1, 0, 0])
        self.assertIs(met(clock(), (5, 0, 0), [lock]), True)
        self.assertIs(met(clock(), (4, 0, 0), [lock]), False)


class Met(unittest.TestCase):
    def test_told_values(self):
        lock = Lock([1, 1, 0], 12, 5)
        for setting, right in (((5, 0, 0), True), ((0, 5, 6), True), ((0, 53, 1), True), ((0, 0, 0), False)):
            self.assertIs(met(clock(), setting, [lock]), right)
        other = Lock((0, 0, 3), 7, -4)
        self.assertIs(met(clock(), (5, 0, 1), (lock, other)), True)
        self.assertIs(met(clock(), (5, 0, 2), (lock, other)), False)
        self.assertIs(met(clock(), (4, 0, 1), (lock, other)), False)
        self.assertIs(met(clock(), (4, 0, 1), []), True)
        self.assertIs(met(clock(), (4, 0, 1), ()), True)
        self.assertIs(met(clock(), (4, 0, 0), [Lock([1 + 12 * BIG, 1, 0], 12, 5 - 12 * BIG)]), False)
        self.assertIs(met(clock(), (5, 0, 0), [Lock([1 + 12 * BIG, 1, 0], 12, 5 - 12 * BIG)]), True)

    def test_small_vaults_gone_through(self):
        for sizes, levers, start, locks in small_cases():
            vault = Vault(sizes, levers)
            for setting in settings(sizes):
                self.assertIs(met(vault, setting, locks), meets(setting, locks))


class OpenFrom(unittest.TestCase):
    def check(self, sizes, levers, start, locks):
        paper = open_from(Vault(sizes, levers), start, locks)
        if type(paper) is Way:
            self.assertIs(type(paper.pulls), tuple)
            self.assertEqual([type(times) for times in paper.pulls], [int] * len(levers))
            self.assertTrue(all(len(str(abs(times))) <= 40 for times in paper.pulls))
            self.assertTrue(meets(reached(sizes, start, levers, paper.pulls), locks))
            return True
        self.assertIs(type(paper), Shut)
        self.assertTrue(bars_by_hand(levers, start, locks, paper.shares))
        self.assertIs(paper.bars(Vault(sizes, levers), start, locks), True)
        return False

    def test_told_values(self):
        vault = Vault([12], [[4]])
        self.assertEqual(open_from(vault, (1,), [Lock([1], 12, 1)]).words(), ("pulls", (0,)))
        self.assertEqual(open_from(vault, (1,), [Lock([1], 12, 9)]).words(), ("pulls", (2,)))
        self.assertEqual(open_from(vault, (1,), [Lock([1], 4, 2)]).words()[0], "shares")
        self.assertEqual(open_from(vault, (1,), [Lock([1], 2, 0)]).words(), ("shares", (1,)))

    def test_no_locks(self):
        for sizes, levers in SMALL:
            for locks in ([], ()):
                paper = open_from(Vault(sizes, levers), settings(sizes)[-1], locks)
                self.assertIs(type(paper), Way)
                self.assertEqual([type(times) for times in paper.pulls], [int] * len(levers))
                self.assertIs(type(paper.pulls), tuple)

    def test_small_vaults_gone_through(self):
        opened = [0, 0]
        for sizes, levers, start, locks in small_cases():
            right = any(meets(plus(sizes, start, doing), locks) for doing in doings(sizes, levers))
            self.assertIs(self.check(sizes, levers, start, locks), right)
            self.assertIs(self.check(sizes, levers, start, tuple(locks)), right)
            opened[right] += len(locks) > 1
        self.assertTrue(min(opened) > 40, opened)

    def test_large_vaults_by_sums(self):
        opened = [0, 0]
        for place, (sizes, levers, start, locks) in enumerate(large_cases()):
            right = self.check(sizes, levers, start, locks)
            self.assertTrue(right or place % 2 == 1)
            opened[right] += 1
        self.assertTrue(min(opened) > 20, opened)

    def test_each_lock_by_itself_but_not_all(self):
        vault = Vault([6, 6], [[1, 1]])
        one = Lock([1, 0], 6, 2)
        other = Lock([0, 1], 6, 3)
        for locks, right in (([one], True), ([other], True), ([one, other], False), ([other, one], False)):
            self.assertIs(self.check((6, 6), ((1, 1),), (0, 0), locks), right)
        self.assertIs(self.check((6, 6), ((1, 1),), (0, 1), [one, other]), True)
        self.assertIs(met(vault, (2, 3), [one, other]), True)

    def test_told_again_the_same(self):
        locks = [Lock([1, 0, 0], 12, 7), Lock([0, 0, 1], 7, 3)]
        alike = (Lock((13, 0, 0), 12, -5), Lock((0, 0, 8), 7, 10))
        for start in ((0, 0, 0), (5, 5, 5)):
            right = open_from(clock(), start, locks).words()
            self.assertEqual(open_from(clock(), start, locks).words(), right)
        self.assertEqual([lock.factors for lock in locks], [[1, 0, 0], [0, 0, 1]])
        self.assertTrue(open_from(clock(), (0, 0, 0), alike).brings())


def asks(vault, setting, locks):
    return [
        lambda: met(vault, setting, locks), lambda: open_from(vault, setting, locks),
        lambda: Shut((1,)).bars(vault, setting, locks), lambda: Shut(None).bars(vault, setting, locks),
    ]


class Refusals(Refused):
    def test_what_is_no_setting_goes_first(self):
        beyond = [(12, 0, 0), (0, 60, 0), (0, 0, 7), (-1, 0, 0), (0, True, 0), (0, 0, BIG), [0, 0, 0]]
        for thing in THINGS + beyond:
            for locks in ([], [Lock([1, 1, 0], 12, 5)], [None], [None] * 7):
                for ask in asks(clock(), thing, locks):
                    self.refused(NoSetting, ask)

    def test_six_and_seven(self):
        lock = Lock([1, 1, 0], 12, 5)
        self.assertIs(met(clock(), (5, 0, 0), [lock] * 6), True)
        self.assertTrue(open_from(clock(), (0, 0, 0), [lock] * 6).brings())
        for locks in ([lock] * 7, (lock,) * 7, [None] * 7, [None] + [lock] * 6, [lock] * 6 + [None], [lock] * 50):
            for ask in asks(clock(), (0, 0, 0), locks):
                self.refused(TooMany, ask)

    def wrong_locks(self):
        fine = (1, 1, 0)
        wrong = [None, 0, True, "", "1 1 0 : 12 5", fine, [fine, 12, 5], {}, Odd(), Paper(), Lock]
        for factors in (
            None, 1, "110", {}, {0: 1, 1: 1, 2: 0}, (), [], (1, 1), [1, 1], (1, 1, 0, 0), [1, 1, 0, 0], (1, None, 0),
            (True, 1, 0), [1, 1, False], (1, "1", 0), ((1, 1, 0),), range(3), Odd(), set(),
        ):
            wrong.append(Lock(factors, 12, 5))
        for number in [0, 1, -2, -12, 361, 720, BIG, -BIG, Odd()] + NO_NUMBERS:
            wrong.append(Lock((0, 0, 0), number, 0))
        for rest in [Odd()] + NO_NUMBERS:
            wrong.append(Lock(fine, 12, rest))
        # The number does not divide factor times size: at the first dial, at the middle one, at the last one.
        for factors, number in (
            ((1, 0, 0), 5), ((1, 12, 0), 24), ((1, 1, 0), 60), ((0, 1, 0), 7), ((5, 1, 0), 360), ((0, 0, 1), 2),
            ((1, 1, 1), 12), ((0, 0, 6), 12), ((0, 0, 1 + 12 * BIG), 12), ((0, -1, 0), 8),
        ):
            wrong.append(Lock(factors, number, 0))
        return wrong

    def test_what_does_not_fit(self):
        fine = Lock([1, 1, 0], 12, 5)
        for wrong in self.wrong_locks():
            for locks, place in (
                ([wrong], 0), ((wrong,), 0), ([wrong, fine], 0), ([fine, wrong, fine], 1), ([fine, wrong, None], 1),
                ([fine] * 5 + [wrong], 5), ([fine, fine, wrong, wrong, fine, wrong], 2),
            ):
                for ask in asks(clock(), (0, 0, 0), locks):
                    self.assertEqual(self.refused(NoLock, ask).lock, place)

    def test_what_fits(self):
        for factors, number, rest in (
            ((0, 0, 0), 2, 0), ((0, 0, 0), 360, BIG), ((30, 6, 360), 360, -BIG), ([7, 7, 1], 7, 99), ((35, 7, 12), 84, 3),
            ((-30, -6, -360), 360, 0), ((10 ** 29 * 30, 0, 0), 360, 1), ((1, 0, 0), 6, 0), ((1, 3, 0), 4, -1),
        ):
            met(clock(), (0, 0, 0), [Lock(factors, number, rest)])

    def test_just_the_numbers_that_fit(self):
        for size in range(2, 13):
            vault = Vault([size], [])
            for number in range(2, 13):
                for factor in range(-6, 13):
                    lock = Lock([factor], number, 0)
                    if factor * size % number == 0:
                        self.assertIs(met(vault, (0,), [lock]), True)
                    else:
                        self.assertEqual(self.refused(NoLock, met, vault, (0,), [lock]).lock, 0)


class Bars(unittest.TestCase):
    def test_small_vaults_gone_through(self):
        seen = [0, 0]
        for sizes, levers, start, locks in small_cases():
            vault = Vault(sizes, levers)
            small = math.prod(lock.number for lock in locks) <= 300
            for shares in itertools.product(*[range(lock.number) for lock in locks]) if small else []:
                right = bars_by_hand(levers, start, locks, shares)
                self.assertIs(Shut(shares).bars(vault, start, locks), right)
                seen[right] += 1
                if right:
                    reach = [plus(sizes, start, doing) for doing in doings(sizes, levers)]
                    self.assertFalse(any(meets(setting, locks) for setting in reach))
        self.assertTrue(min(seen) > 100, seen)

    def test_drawn_shares_on_large_vaults(self):
        chance = random.Random(68)
        seen = [0, 0]
        for sizes, levers, start, locks in large_cases():
            vault = Vault(sizes, levers[:2])
            told = open_from(vault, start, locks)
            some = [tuple(chance.randrange(lock.number) for lock in locks) for _ in range(4)]
            some.append((0,) * len(locks))
            if type(told) is Shut:
                doubled = tuple(share * 2 % lock.number for share, lock in zip(told.shares, locks))
                some += [told.shares, doubled, told.shares[::-1]]
            for shares in some:
                right = bars_by_hand(levers[:2], start, locks, shares)
                self.assertIs(Shut(shares).bars(vault, start, locks), right)
                seen[right] += 1
        self.assertTrue(min(seen) > 20, seen)

    def test_whatever_the_shares_are(self):
        vault = Vault([12, 12], [[4, 0]])
        locks = [Lock([1, 0], 4, 1), Lock([0, 1], 12, 1)]
        self.assertIs(Shut((1, 0)).bars(vault, (0, 0), locks), True)
        self.assertIs(Shut((3, 11)).bars(vault, (0, 0), locks), True)
        self.assertIs(Shut((0, 1)).bars(vault, (0, 0), locks), True)
        for shares in THINGS + [
            (0, 0), (4, 0), (5, 0), (-1, 0), (0, 12), (0, 13), (0, -1), (1,), (1, 0, 0), [1, 0], "10", "1 0", (True, 0),
            (1, False), (1, None), (1, "0"), ((1,), 0), (1 + 4 * BIG, 0), {0: 1, 1: 0}, (Odd(), 0), Shut((1, 0)), (1.0, 0),
        ]:
            self.assertIs(Shut(shares).bars(vault, (0, 0), locks), False)

    def test_no_locks(self):
        for shares in ((), (0,), (1,), [], None, 0, "", Odd()):
            for locks in ([], ()):
                self.assertIs(Shut(shares).bars(clock(), (0, 0, 0), locks), False)
                self.assertIs(Shut(shares).bars(Vault([2], []), (1,), locks), False)

    def test_met_locks_are_not_barred(self):
        lock = Lock([1], 4, 1)
        for shares in ((0,), (1,), (2,), (3,)):
            self.assertIs(Shut(shares).bars(Vault([4], []), (1,), [lock]), False)
            self.assertIs(Shut(shares).bars(Vault([4], []), (0,), [lock]), shares != (0,))
            self.assertIs(Shut(shares).bars(Vault([4], [[2]]), (0,), [lock]), shares == (2,))


class ShutAsPaper(Refused):
    def test_words_and_field(self):
        for shares in ((1, 2), [1, 2], (), None, "shares", 7, {}, Odd(), Shut):
            paper = Shut(shares)
            self.assertIs(paper.shares, shares)
            self.assertIsInstance(paper, Paper)
            self.assertIs(paper.brings(), False)
            self.assertEqual(type(paper.words()), tuple)
            self.assertEqual(len(paper.words()), 2)
            self.assertEqual(paper.words()[0], "shares")
        self.assertEqual(Shut((1, 2)).words(), ("shares", (1, 2)))
        self.assertEqual(Shut([1, 2]).words(), ("shares", [1, 2]))
        self.assertEqual(Shut(None).words(), ("shares", None))

    def test_it_shows_nothing(self):
        vault = clock()
        for shares in ((0, 0, 0), (0, 2, 0), (1,), None, Odd()):
            for one, other in (((0, 0, 0), (0, 1, 0)), ((0, 0, 0), (0, 0, 0)), ((1, 1, 1), (2, 1, 1))):
                self.assertIs(Shut(shares).shows(vault, one, other), False)

    def test_it_is_refused_as_a_plain_paper_is(self):
        for thing in THINGS + [(12, 0, 0), (0, -1, 0), (0, 0, 7), (0, True, 0)]:
            for shares in ((0, 2, 0), None):
                self.refused(NoSetting, Shut(shares).shows, clock(), thing, (0, 0, 0))
                self.refused(NoSetting, Shut(shares).shows, clock(), (0, 0, 0), thing)


if __name__ == "__main__":
    unittest.main()
