"""[63] gears and what they lead to, [64] the image of a vault and what is led into one."""

import math
import random
import unittest

from dialvault.classes import class_count, together_count
from dialvault.errors import NoDial, NoGear, NoSetting, TooMany, Unlike
from dialvault.gears import Gear, image, led_into
from dialvault.pairs import both
from dialvault.rungs import Rungs
from dialvault.stills import clear
from dialvault.vault import Vault
from plain import BIG, SMALL, THINGS, Odd, Refused, clear_told, doings, drawn_levers, plus, settings, told


def led_by_hand(front, rear, teeth, setting):
    return tuple(sum(notch * row[k] for notch, row in zip(setting, teeth)) % size for k, size in enumerate(rear))


# A tooth does where it is a multiple of the rear size divided by what it has in common with the front size.
def drawn_teeth(chance, front, rear, far=0):
    rows = []
    for size in front:
        unit = [other // math.gcd(size, other) for other in rear]
        rows.append([one * chance.randint(-12, 12) + far * one * chance.randint(-1, 1) for one in unit])
    return rows


def some_levers(chance, sizes, most):
    return drawn_levers(chance, sizes, chance.randint(0, most), chance.choice((1, 1, 2, 3, 4)))


def small_gears():
    chance = random.Random(63)
    found = [
        ((12,), (12,), [[1]]), ((12,), (12,), [[0]]), ((12,), (4,), [[1]]), ((4,), (12,), [[3]]), ((4,), (12,), [[-3]]),
        ((5,), (7,), [[7]]), ((4, 6), (12,), [[3], [2]]), ((12,), (4, 6), [[1, 1]]), ((2, 2), (2, 2), [[0, 1], [1, 0]]),
        ((6,), (6, 6, 6), [[1, 2, 3]]),
    ]
    dials = [sizes for sizes, levers in SMALL if math.prod(sizes) <= 150]
    for _ in range(80):
        front = chance.choice(dials)
        rear = chance.choice(dials)
        found.append((front, rear, drawn_teeth(chance, front, rear)))
    return found


def large_gears():
    chance = random.Random(64)
    found = []
    for _ in range(25):
        front = tuple(chance.choice((360, 359, 240, 210, 128, 81, 36)) for _ in range(6))
        rear = tuple(chance.choice((360, 359, 240, 210, 128, 81, 36)) for _ in range(chance.randint(1, 6)))
        found.append((front, rear, drawn_teeth(chance, front, rear, 10 ** 28)))
    return found


class Led(Refused):
    def test_told_values(self):
        gear = Gear([4, 6], [12], [[3], [2]])
        self.assertEqual(gear.led((0, 0)), (0,))
        self.assertEqual(gear.led((1, 0)), (3,))
        self.assertEqual(gear.led((3, 5)), (7,))
        self.assertEqual(Gear([12], [4, 6], [[1, 1]]).led((11,)), (3, 5))
        self.assertEqual(Gear((12,), (4, 6), ((-1, 7),)).led((11,)), (1, 5))
        self.assertEqual(Gear([5], [7], [[0]]).led((4,)), (0,))
        self.assertEqual(Gear([5], [7], [[-7]]).led((4,)), (0,))

    def test_small_dials_gone_through(self):
        for front, rear, teeth in small_gears():
            gear = Gear(front, rear, teeth)
            for setting in settings(front):
                self.assertEqual(gear.led(setting), led_by_hand(front, rear, teeth, setting))
                self.assertIs(type(gear.led(setting)), tuple)

    def test_sums_are_led_to_sums(self):
        chance = random.Random(65)
        for front, rear, teeth in small_gears() + large_gears():
            gear = Gear(front, rear, teeth)
            for _ in range(8):
                one = tuple(chance.randrange(size) for size in front)
                other = tuple(chance.randrange(size) for size in front)
                times = chance.randint(-10 ** 30, 10 ** 30)
                right = plus(rear, gear.led(one), gear.led(other), times)
                self.assertEqual(gear.led(plus(front, one, other, times)), right)

    def test_teeth_of_many_figures(self):
        for tooth in (10 ** 29, -10 ** 29, 999999999999999999999999999999, -BIG):
            gear = Gear([7, 2], [7, 14], [[tooth, 2 * tooth], [7 * tooth, 7 * tooth]])
            for setting in settings((7, 2)):
                right = led_by_hand((7, 2), (7, 14), [[tooth, 2 * tooth], [7 * tooth, 7 * tooth]], setting)
                self.assertEqual(gear.led(setting), right)

    def test_no_setting_of_the_front(self):
        gear = Gear([12, 60, 7], [2, 2], [[1, 1], [1, 0], [2, 4]])
        self.assertEqual(gear.led((11, 59, 6)), (0, 1))
        beyond = [(12, 0, 0), (0, 60, 0), (0, 0, 7), (-1, 0, 0), (0, 0, BIG), (0, True, 0), (0, 0, None), (1, 1), [1, 1, 1]]
        for thing in THINGS + beyond:
            self.refused(NoSetting, gear.led, thing)

    def test_lists_changed_behind(self):
        front = [4, 6]
        rear = [12]
        teeth = [[3], [2]]
        gear = Gear(front, rear, teeth)
        self.assertEqual((front, rear, teeth), ([4, 6], [12], [[3], [2]]))
        teeth[0][0] = 5
        teeth[1] = [0]
        front[0] = 9
        rear.append(3)
        self.assertEqual([gear.led(setting) for setting in ((1, 0), (0, 1), (3, 5))], [(3,), (2,), (7,)])
        self.assertEqual(told(image(gear, Vault([4, 6], [[1, 1]]))), ((12,), ((1,),), (1,)))
        self.refused(NoSetting, gear.led, (8, 0))


class Made(Refused):
    def at(self, dial, front, rear, teeth):
        self.assertEqual(self.refused(NoGear, Gear, front, rear, teeth).dial, dial)

    def test_too_few_rows_and_too_many(self):
        for front, teeth, dial in (
            ([2], [], 0), ([2, 2], [], 0), ([2, 2], [[1]], 1), ([2, 2, 2], [[1], [1]], 2), ([2], [[1], [1]], 1),
            ([2, 2], [[1]] * 3, 2), ([2, 2], ((1,),) * 9, 2), ([2] * 6, [[0]] * 5, 5), ([2] * 6, [[0]] * 7, 6),
            ([2], [[1], None], 1),
        ):
            self.at(dial, front, [2], teeth)

    def test_wrong_rows(self):
        rows = [
            None, True, 1, "", "1 1", {}, {0: 0, 1: 0}, [], [1], (1,), [1, 1, 1], [None, 1], [1, None], [True, 1],
            [1, False], ["1", 1], [1, (1,)], [[1, 1]], Odd(), set(), range(2), b"11",
        ]
        for row in rows:
            self.at(0, [2, 2, 2], [2, 2], [row, [1, 1], [1, 1]])
            self.at(1, [2, 2, 2], [2, 2], [[1, 1], row, [1, 1]])
            self.at(2, [2, 2, 2], [2, 2], ((1, 1), (1, 1), row))
            self.at(0, [2, 2, 2], [2, 2], [row] * 3)

    def test_a_whole_turn_that_does_not_do(self):
        for front, rear, teeth, dial in (
            ([4], [12], [[1]], 0), ([4], [12], [[2]], 0), ([4], [12], [[-1]], 0), ([4], [12], [[10 ** 29 + 1]], 0),
            ([4, 6], [12], [[3], [3]], 1), ([4, 6], [12, 5], [[3, 5], [2, 1]], 1),
            ([5, 7], [7], [[1], [1]], 0), ([2, 2, 3], [4], [[2], [0], [1]], 2), ([2, 2, 3], [4], [[2], [1], [1]], 1),
        ):
            self.at(dial, front, rear, teeth)
        self.assertEqual(Gear([5, 7], [7], [[7], [1]]).led((1, 1)), (1,))

    def test_a_wrong_row_ahead_of_one_too_few_or_too_many(self):
        self.at(0, [4, 4], [12], [[1]])
        self.at(0, [4, 4], [12], [None])
        self.at(1, [4, 4], [12], [[3], [1], [3]])
        self.at(1, [4, 4], [12], [[3], "", [3]])
        self.at(2, [4, 4], [12], [[3], [3], "", [1]])

    def test_small_teeth_gone_through(self):
        for front in range(2, 13):
            for rear in range(2, 13):
                for tooth in range(-13, 14):
                    if front * tooth % rear == 0:
                        self.assertEqual(Gear([front], [rear], [[tooth]]).led((1,)), (tooth % rear,))
                    else:
                        self.at(0, [front], [rear], [[tooth]])

    def test_the_sizes_go_first(self):
        wrong = (([], 0), ([1], 0), ([12, 361], 1), ([12, True, 0], 1), ([2, 2, "2"], 2), ((2, None), 1))
        for sizes, dial in wrong:
            for rear in ([2], [], [1], [2] * 7, [2, 2, 2, 0]):
                self.assertEqual(self.refused(NoDial, Gear, sizes, rear, []).dial, dial)
            for teeth in ([], [[1]], [None] * 9):
                self.assertEqual(self.refused(NoDial, Gear, [2], sizes, teeth).dial, dial)
            self.refused(TooMany, Gear, [2] * 7, sizes, [])
        self.refused(TooMany, Gear, [2], [2] * 7, [])
        self.refused(TooMany, Gear, [2], [1] * 7, [None])
        self.refused(TooMany, Gear, [1] * 7, [2], [[1]])

    def test_six_dials_to_six(self):
        gear = Gear([360] * 6, [360] * 6, [[int(j == 5 - k) for k in range(6)] for j in range(6)])
        self.assertEqual(gear.led((1, 2, 3, 4, 5, 359)), (359, 5, 4, 3, 2, 1))


class Image(unittest.TestCase):
    def test_told_values(self):
        gear = Gear([4, 6], [12], [[3], [2]])
        self.assertEqual(told(image(gear, Vault([4, 6], []))), ((12,), (), ()))
        self.assertEqual(told(image(gear, Vault([4, 6], [[2, 0]], [7]))), ((12,), ((6,),), (1,)))
        self.assertEqual(told(image(gear, Vault([4, 6], [[1, 1]], [7]))), ((12,), ((1,),), (1,)))
        self.assertEqual(told(image(gear, Vault([4, 6], [[0, 2]] * 8))), ((12,), ((4,),), (1,)))

    def test_small_dials_gone_through(self):
        chance = random.Random(66)
        for front, rear, teeth in small_gears():
            levers = some_levers(chance, front, 4)
            done = {led_by_hand(front, rear, teeth, doing) for doing in doings(front, levers)}
            vault = Vault(front, levers, [5] * len(levers))
            self.assertEqual(told(image(Gear(front, rear, teeth), vault)), clear_told(rear, done))


class LedInto(unittest.TestCase):
    def test_told_values(self):
        gear = Gear([4, 6], [12], [[3], [2]])
        self.assertEqual(told(led_into(gear, Vault([12], []))), ((4, 6), ((2, 3),), (1,)))
        self.assertEqual(told(led_into(gear, Vault([12], [[1]], [7]))), ((4, 6), ((1, 0), (0, 1)), (1, 1)))
        self.assertEqual(told(led_into(gear, Vault([12], [[4]]))), ((4, 6), ((2, 1), (0, 2)), (1, 1)))

    def test_small_dials_gone_through(self):
        chance = random.Random(67)
        for front, rear, teeth in small_gears():
            for levers in ((), some_levers(chance, rear, 4)):
                done = doings(rear, levers)
                into = [setting for setting in settings(front) if led_by_hand(front, rear, teeth, setting) in done]
                vault = Vault(rear, levers, [5] * len(levers))
                self.assertEqual(told(led_into(Gear(front, rear, teeth), vault)), clear_told(front, into))

    def test_large_dials_by_sums(self):
        chance = random.Random(68)
        for front, rear, teeth in large_gears():
            gear = Gear(front, rear, teeth)
            vault = Vault(rear, some_levers(chance, rear, 8))
            into = led_into(gear, vault)
            self.assertEqual(told(clear(into)), told(into))
            for lever in into.levers():
                self.assertIsNotNone(Rungs(vault).pulls_to(gear.led(lever)))
            # As many classes as what the whole front is led to has beyond what the vault does of it.
            units = Vault(front, [[int(k == j) for k in range(6)] for j in range(6)])
            whole = image(gear, units)
            self.assertEqual(class_count(into) * together_count(both(whole, vault)), together_count(whole))


class Counts(unittest.TestCase):
    def check(self, front, rear, teeth, levers):
        gear = Gear(front, rear, teeth)
        vault = Vault(front, levers)
        to_nought = led_into(gear, Vault(rear, []))
        right = together_count(image(gear, vault)) * together_count(both(to_nought, vault))
        self.assertEqual(together_count(vault), right)

    def test_small_and_large_dials(self):
        chance = random.Random(69)
        for front, rear, teeth in small_gears() + large_gears():
            for _ in range(2):
                self.check(front, rear, teeth, some_levers(chance, front, 8))


class UnlikeDials(Refused):
    def test_other_sizes(self):
        gear = Gear([4, 6], [12], [[3], [2]])
        for sizes in ([4], [6, 4], [4, 6, 2], [12], [12, 4, 6], [5, 6], [4, 12]):
            self.refused(Unlike, image, gear, Vault(sizes, []))
            self.refused(Unlike, image, gear, Vault(sizes, [[1] * len(sizes)]))
        for sizes in ([4], [4, 6], [12, 12], [6], [11], [12, 2]):
            self.refused(Unlike, led_into, gear, Vault(sizes, []))
            self.refused(Unlike, led_into, gear, Vault(sizes, [[1] * len(sizes)]))

    def test_told_again_the_same(self):
        one = Gear([4, 6], [12], [[3], [2]])
        other = Gear((4, 6), (12,), ((15,), (-10,)))
        for vault in (Vault([4, 6], [[1, 1]], [4]), Vault((4, 6), ((5, -5),))):
            self.assertEqual(told(image(one, vault)), told(image(other, vault)))
            self.assertEqual(told(image(one, vault)), told(image(one, vault)))
        for vault in (Vault([12], [[4]], [4]), Vault((12,), ((-8,),))):
            self.assertEqual(told(led_into(one, vault)), told(led_into(other, vault)))
            self.assertEqual(told(led_into(one, vault)), told(led_into(one, vault)))


if __name__ == "__main__":
    unittest.main()
