"""[70] classes that come to nought, [71] the build's numbers, [72] the table that leads forth, [73] what leads back."""

import math
import random
import unittest

from dialvault.build import Build, ended
from dialvault.classes import class_count, together_count
from dialvault.errors import NoDial, NoNumber, NoSetting
from dialvault.gears import Gear, led_into
from dialvault.rungs import Rungs
from dialvault.vault import Vault
from plain import BIG, NO_NUMBERS, SMALL, THINGS, Odd, Refused, doings, large_vaults, more_small, plus, reached, settings

VAULTS = SMALL + more_small(70, 40, 150)
LARGE = large_vaults()


def clock():
    return Vault([12, 60, 7], [[1, 0, 0], [3, 30, 1]], [1, 5])


# One setting of each class.
def one_of_each(sizes, levers):
    done = doings(sizes, levers)
    return {min(plus(sizes, setting, doing) for doing in done) for setting in settings(sizes)}


def ended_by_hand(sizes, levers, turns):
    done = doings(sizes, levers)
    none = (0,) * len(sizes)
    return sum(plus(sizes, none, setting, turns) in done for setting in one_of_each(sizes, levers))


def ended_by_numbers(numbers, turns):
    return math.prod(math.gcd(turns, number) for number in numbers)


class Ended(Refused):
    def test_told_values(self):
        for vault, turns, right in (
            (Vault([12], []), 0, 12), (Vault([12], []), 1, 1), (Vault([12], []), 2, 2), (Vault([12], []), 8, 4),
            (Vault([12], []), 12, 12), (Vault([12], [[8]]), 2, 2), (Vault([12], [[8]]), 3, 1), (Vault([2, 2], []), 2, 4),
            (Vault([4], []), 2, 2), (Vault([12], [[1]]), 0, 1), (clock(), 0, 30), (clock(), 15, 15), (clock(), 7, 1),
            (Vault([360] * 6, []), 360, 360 ** 6), (Vault([360] * 6, []), 10 ** 29, 40 ** 6), (clock(), 30 * BIG, 30),
        ):
            self.assertEqual(ended(vault, turns), right)
            self.assertIs(type(ended(vault, turns)), int)

    def test_small_vaults_gone_through(self):
        for sizes, levers in VAULTS:
            vault = Vault(sizes, levers)
            around = math.lcm(*sizes)
            for turns in (0, 1, 2, 3, 4, 6, 7, 9, around - 1, around, around + 1, 2 * around, BIG, 10 ** 29 + 8):
                right = ended_by_hand(sizes, levers, turns)
                self.assertEqual(ended(vault, turns), right)
                self.assertEqual(ended_by_numbers(Build(vault).numbers(), turns), right)

    # The settings that the turns lead to doings are what a gear with such teeth leads into the vault.
    def test_large_vaults_by_a_gear(self):
        for sizes, levers in LARGE:
            vault = Vault(sizes, levers)
            for turns in (0, 1, 2, 3, 4, 5, 8, 9, 12, 90, 360, math.lcm(*sizes), BIG):
                teeth = [[turns if j == k else 0 for k in range(6)] for j in range(6)]
                into = led_into(Gear(sizes, sizes, teeth), vault)
                self.assertEqual(ended(vault, turns) * together_count(vault), together_count(into))

    def test_no_number(self):
        for thing in [-1, -2, -BIG, 1.5, Odd(), set(), len] + NO_NUMBERS:
            self.refused(NoNumber, ended, clock(), thing)
            self.refused(NoNumber, ended, Vault([2], []), thing)


class Numbers(unittest.TestCase):
    def test_told_values(self):
        for sizes, levers, right in (
            ([12], [], (12,)), ([12], [[1]], (1,)), ([12], [[8]], (4,)), ([3, 4], [], (1, 12)), ([2, 2], [], (2, 2)),
            ([4, 6], [], (2, 12)), ([4, 6], [[1, 1]], (1, 2)), ([4, 6], [[2, 3]], (1, 12)), ([6, 10, 15], [], (1, 30, 30)),
            ([12, 60, 7], [[1, 0, 0], [3, 30, 1]], (1, 1, 30)), ([2, 4, 8], [[0, 0, 0]], (2, 4, 8)),
            ([8, 4, 2], [], (2, 4, 8)), ([360] * 6, [], (360,) * 6), ([2, 3, 5, 7, 11, 13], [], (1,) * 5 + (30030,)),
            ([4, 4], [[2, 2]], (2, 4)), ([4, 4], [[2, 0], [0, 2]], (2, 2)), ([9, 3], [[3, 1]], (1, 9)),
        ):
            self.assertEqual(Build(Vault(sizes, levers)).numbers(), right)
            self.assertIs(type(Build(Vault(sizes, levers)).numbers()), tuple)

    def check(self, sizes, levers):
        vault = Vault(sizes, levers)
        numbers = Build(vault).numbers()
        self.assertEqual([type(number) for number in numbers], [int] * len(sizes))
        self.assertTrue(all(number >= 1 for number in numbers))
        self.assertTrue(all(numbers[k + 1] % numbers[k] == 0 for k in range(len(sizes) - 1)))
        self.assertEqual(math.prod(numbers), class_count(vault))

    def test_each_divides_the_next(self):
        for sizes, levers in VAULTS + LARGE:
            self.check(sizes, levers)

    def test_all_turns_up_to_the_round(self):
        for sizes, levers in SMALL:
            numbers = Build(Vault(sizes, levers)).numbers()
            for turns in range(math.lcm(*sizes) + 1):
                self.assertEqual(ended_by_numbers(numbers, turns), ended_by_hand(sizes, levers, turns))

    def test_the_order_of_dials_and_levers_does_not_matter(self):
        chance = random.Random(71)
        for sizes, levers in VAULTS + LARGE:
            order = list(range(len(sizes)))
            chance.shuffle(order)
            moved = [[lever[dial] for dial in order] for lever in levers]
            chance.shuffle(moved)
            other = Vault([sizes[dial] for dial in order], moved, [3] * len(moved))
            self.assertEqual(Build(other).numbers(), Build(Vault(sizes, levers)).numbers())


class Forth(Refused):
    def check_table(self, sizes, build):
        table = build.forth_table()
        numbers = build.numbers()
        self.assertIs(type(table), tuple)
        self.assertEqual(len(table), len(sizes))
        for dial, row in enumerate(table):
            self.assertIs(type(row), tuple)
            self.assertEqual(len(row), len(numbers))
            self.assertTrue(all(type(entry) is int and 0 <= entry < number for entry, number in zip(row, numbers)))
            self.assertTrue(all(sizes[dial] * entry % number == 0 for entry, number in zip(row, numbers)))

    def by_hand(self, build, setting):
        columns = zip(*build.forth_table())
        sums = [sum(notch * entry for notch, entry in zip(setting, column)) for column in columns]
        return tuple(total % number for total, number in zip(sums, build.numbers()))

    def test_small_vaults_gone_through(self):
        for sizes, levers in VAULTS:
            build = Build(Vault(sizes, levers))
            self.check_table(sizes, build)
            done = doings(sizes, levers)
            rows = {}
            for setting in settings(sizes):
                row = build.forth(setting)
                self.assertIs(type(row), tuple)
                self.assertEqual(row, self.by_hand(build, setting))
                rows.setdefault(row, set()).add(setting)
            # Each row has just one class, and each class one row.
            self.assertEqual(len(rows), math.prod(build.numbers()))
            for found in rows.values():
                self.assertEqual(found, {plus(sizes, min(found), doing) for doing in done})

    def test_large_vaults_by_sums(self):
        chance = random.Random(72)
        for sizes, levers in LARGE:
            vault = Vault(sizes, levers)
            build = Build(vault)
            rungs = Rungs(vault)
            self.check_table(sizes, build)
            for lever in levers:
                self.assertEqual(build.forth(lever), (0,) * 6)
            for _ in range(8):
                one = tuple(chance.randrange(size) for size in sizes)
                other = tuple(chance.randrange(size) for size in sizes)
                near = reached(sizes, one, levers, [chance.randint(-BIG, BIG) for _ in levers])
                self.assertEqual(build.forth(one), self.by_hand(build, one))
                self.assertEqual(build.forth(one), build.forth(near))
                self.assertEqual(build.forth(one), build.forth(rungs.least(one)))
                apart = rungs.pulls_to(plus(sizes, other, one, -1)) is None
                self.assertEqual(build.forth(one) != build.forth(other), apart)

    def test_no_setting(self):
        build = Build(clock())
        for thing in THINGS + [(12, 0, 0), (0, 60, 0), (0, 0, 7), (-1, 0, 0), (0, True, 0), (0, 0, BIG), [1, 1, 1]]:
            self.refused(NoSetting, build.forth, thing)


class Back(Refused):
    def check(self, sizes, levers, rows):
        vault = Vault(sizes, levers)
        build = Build(vault)
        numbers = build.numbers()
        length = len(sizes)
        backs = [build.back(place) for place in range(length)]
        for place, setting in enumerate(backs):
            self.assertTrue(all(type(notch) is int and 0 <= notch < size for notch, size in zip(setting, sizes)))
            self.assertEqual((type(setting), len(setting)), (tuple, length))
            self.assertEqual(build.forth(setting), tuple(int(k == place) % numbers[k] for k in range(length)))
        for row in rows:
            right = (0,) * length
            for number, times, setting in zip(numbers, row, backs):
                right = plus(sizes, right, setting, times % number)
            told = build.back_of(row)
            self.assertEqual(told, right)
            self.assertIs(type(told), tuple)
            self.assertEqual(build.forth(told), tuple(times % number for times, number in zip(row, numbers)))

    def test_told_values(self):
        build = Build(Vault([12], []))
        self.assertIn(build.back(0), [(1,), (5,), (7,), (11,)])
        self.assertEqual(build.forth(build.back(0)), (1,))
        self.assertEqual(build.back_of((0,)), (0,))
        self.assertEqual(build.back_of((-24,)), (0,))
        self.assertEqual(build.forth(build.back_of((-1,))), (11,))
        self.assertEqual(Build(Vault([12], [[1]])).forth(Build(Vault([12], [[1]])).back(0)), (0,))

    def test_small_vaults(self):
        chance = random.Random(73)
        for sizes, levers in VAULTS:
            rows = [tuple(chance.randint(-40, 40) for _ in sizes) for _ in range(10)]
            self.check(sizes, levers, rows + [(0,) * len(sizes), (-1,) * len(sizes), (BIG,) * len(sizes)])

    def test_large_vaults(self):
        chance = random.Random(74)
        for sizes, levers in LARGE:
            rows = [tuple(chance.randint(-10 ** 30 + 1, 10 ** 30 - 1) for _ in sizes) for _ in range(6)]
            self.check(sizes, levers, rows + [(0,) * 6, (1,) * 6, (-1,) * 6])

    def test_no_place(self):
        build = Build(clock())
        odd = Odd()
        for thing in [-1, -3, 3, 4, BIG, -BIG, 1.0, "1", set(), None, True, False, (), (0,), [], [0], {}]:
            self.assertEqual(self.refused(NoDial, build.back, thing).dial, thing)
        self.assertIs(self.refused(NoDial, build.back, odd).dial, odd)
        self.assertIs(self.refused(NoDial, build.back, True).dial, True)
        self.assertEqual(self.refused(NoDial, Build(Vault([2], [])).back, 1).dial, 1)

    def test_no_row(self):
        build = Build(clock())
        wrong = [[0, 0, 0], (0, 0), (0, 0, 0, 0), (0, 0, True), (None, 0, 0), (0, "0", 0), ((0, 0, 0),), (0, 0, [])]
        for thing in THINGS + wrong:
            self.refused(NoSetting, build.back_of, thing)
        build.back_of((-1, 12, BIG))


class Again(unittest.TestCase):
    def test_told_again_the_same(self):
        for sizes, levers in SMALL + LARGE[::5]:
            one = Build(Vault(sizes, levers))
            other = Build(Vault(list(sizes), [[n - 5 * size for n, size in zip(lever, sizes)] for lever in levers]))
            priced = Build(Vault(sizes, levers, [7] * len(levers)))
            for build in (one, other, priced):
                self.assertEqual(build.numbers(), one.numbers())
                self.assertEqual(build.forth_table(), one.forth_table())
                self.assertEqual([build.back(k) for k in range(len(sizes))], [one.back(k) for k in range(len(sizes))])
                self.assertEqual(build.back_of((5,) * len(sizes)), one.back_of((5,) * len(sizes)))
                self.assertEqual(build.forth((1,) * len(sizes)), one.forth((1,) * len(sizes)))

    def test_lists_changed_behind(self):
        sizes = [4, 6]
        levers = [[2, 3]]
        build = Build(Vault(sizes, levers))
        told = (build.numbers(), build.forth_table(), build.back(1), build.forth((3, 5)))
        sizes[0] = 5
        levers[0][0] = 1
        self.assertEqual((build.numbers(), build.forth_table(), build.back(1), build.forth((3, 5))), told)


if __name__ == "__main__":
    unittest.main()
