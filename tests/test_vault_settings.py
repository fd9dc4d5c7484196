"""[22], [23] nought, settings and pulls, and what is kept, turned, pulled and told as the difference."""

import itertools
import unittest

from dialvault.errors import NoLever, NoPulls, NoSetting, VaultError
from dialvault.vault import Vault, between, is_pulls, is_setting, kept, nought, pulled, turned
from plain import BIG, NO_NUMBERS, THINGS, Refused


def clock():
    return Vault([12, 60, 7], [[1, 0, 0], [3, 30, 1]], [1, 5])


def leverless():
    return Vault([4, 6], [])


class Nought(unittest.TestCase):
    def test_nought(self):
        for count in range(1, 7):
            told = nought(Vault([2] * count, []))
            self.assertEqual(told, (0,) * count)
            self.assertIs(type(told), tuple)
            self.assertEqual([type(number) for number in told], [int] * count)

    def test_levers_do_not_matter(self):
        self.assertEqual(nought(Vault([5, 5], [[1, 1]] * 8)), (0, 0))

    def test_it_is_a_setting(self):
        self.assertIs(is_setting(clock(), nought(clock())), True)


class IsSetting(unittest.TestCase):
    def test_settings(self):
        for thing in ((0, 0, 0), (11, 59, 6), (11, 0, 0), (0, 59, 0), (0, 0, 6), (5, 30, 3)):
            self.assertIs(is_setting(clock(), thing), True)

    def test_beyond_the_bounds(self):
        for thing in (
            (12, 0, 0), (0, 60, 0), (0, 0, 7), (-1, 0, 0), (0, -1, 0), (0, 0, -1), (12, 60, 7), (BIG, 0, 0),
            (0, 0, -BIG), (-12, 0, 0), (0, 0, 11),
        ):
            with self.subTest(thing=thing):
                self.assertIs(is_setting(clock(), thing), False)

    def test_every_notch(self):
        for size in (2, 3, 359, 360):
            vault = Vault([size], [])
            self.assertEqual([n for n in range(-400, 800) if is_setting(vault, (n,))], list(range(size)))

    def test_of_any_thing(self):
        for thing in THINGS:
            with self.subTest(kind=type(thing).__name__):
                self.assertIs(is_setting(clock(), thing), False)

    def test_no_numbers_within(self):
        for thing in NO_NUMBERS:
            self.assertIs(is_setting(clock(), (thing, 0, 0)), False)
            self.assertIs(is_setting(clock(), (0, thing, 0)), False)
            self.assertIs(is_setting(clock(), (0, 0, thing)), False)

    def test_one_number_more_or_less(self):
        for count in range(1, 7):
            vault = Vault([3] * count, [[1] * count])
            self.assertIs(is_setting(vault, (1,) * count), True)
            self.assertIs(is_setting(vault, (1,) * (count - 1)), False)
            self.assertIs(is_setting(vault, (1,) * (count + 1)), False)

    def test_a_list_is_none_and_stays(self):
        numbers = [1, 2, 3]
        self.assertIs(is_setting(clock(), numbers), False)
        self.assertEqual(numbers, [1, 2, 3])


class IsPulls(unittest.TestCase):
    def test_pulls_of_either_sign(self):
        for thing in ((0, 0), (1, -1), (BIG, -BIG), (-5, 400)):
            self.assertIs(is_pulls(clock(), thing), True)

    def test_without_levers(self):
        self.assertIs(is_pulls(leverless(), ()), True)
        for thing in ((0,), (0, 0), [], None, "", {}, 0, False):
            self.assertIs(is_pulls(leverless(), thing), False)

    def test_one_number_more_or_less(self):
        for count in range(9):
            vault = Vault([5], [[1]] * count)
            self.assertIs(is_pulls(vault, (7,) * count), True)
            self.assertIs(is_pulls(vault, (7,) * (count + 1)), False)
            if count > 0:
                self.assertIs(is_pulls(vault, (7,) * (count - 1)), False)

    def test_of_any_thing(self):
        vault = Vault([5], [[1], [2], [3]])
        for thing in THINGS:
            with self.subTest(kind=type(thing).__name__):
                self.assertIs(is_pulls(vault, thing), False)

    def test_no_numbers_within(self):
        vault = Vault([5], [[1], [2], [3]])
        for thing in NO_NUMBERS:
            self.assertIs(is_pulls(vault, (thing, 0, 0)), False)
            self.assertIs(is_pulls(vault, (0, thing, 0)), False)
            self.assertIs(is_pulls(vault, (0, 0, thing)), False)

    def test_a_list_is_none_and_stays(self):
        numbers = [1, 2]
        self.assertIs(is_pulls(clock(), numbers), False)
        self.assertEqual(numbers, [1, 2])


class Kept(Refused):
    def test_told_values(self):
        for numbers, told in (
            ((0, 0, 0), (0, 0, 0)), ((11, 59, 6), (11, 59, 6)), ((12, 60, 7), (0, 0, 0)), ((13, 61, 8), (1, 1, 1)),
            ((-1, -1, -1), (11, 59, 6)), ((-12, -60, -7), (0, 0, 0)), ((-13, -61, -8), (11, 59, 6)),
            ((25, -121, 700), (1, 59, 0)),
        ):
            for handed in (numbers, list(numbers)):
                self.assertEqual(kept(clock(), handed), told)
                self.assertIs(type(kept(clock(), handed)), tuple)

    def test_thirty_figures(self):
        for big in (BIG, -BIG, 10 ** 30 - 1, 1 - 10 ** 30):
            told = kept(clock(), [big, big + 1, big - 1])
            self.assertTrue(is_setting(clock(), told))
            self.assertEqual(told, (big % 12, (big + 1) % 60, (big - 1) % 7))
            self.assertEqual([(big - told[0]) % 12, (big + 1 - told[1]) % 60, (big - 1 - told[2]) % 7], [0, 0, 0])

    def test_any_other_thing(self):
        for thing in THINGS:
            if thing.__class__ is list and len(thing) == 3:
                continue
            with self.subTest(kind=type(thing).__name__):
                self.refused(NoSetting, kept, clock(), thing)

    def test_one_number_more_or_less(self):
        for numbers in ([], [1], [1, 2], [1, 2, 3, 4]):
            self.refused(NoSetting, kept, clock(), numbers)
            self.refused(NoSetting, kept, clock(), tuple(numbers))

    def test_no_numbers_within(self):
        for thing in NO_NUMBERS:
            self.refused(NoSetting, kept, clock(), (thing, 0, 0))
            self.refused(NoSetting, kept, clock(), [0, thing, 0])
            self.refused(NoSetting, kept, clock(), [0, 0, thing])

    def test_handed_in_stays(self):
        numbers = [13, -1, 70]
        told = kept(clock(), numbers)
        self.assertEqual(numbers, [13, -1, 70])
        numbers[0] = 5
        self.assertEqual(told, (1, 59, 0))


class Turned(Refused):
    def test_told_values(self):
        for setting, pulls, told in (
            ((0, 0, 0), (0, 0), (0, 0, 0)), ((0, 0, 0), (1, 0), (1, 0, 0)), ((0, 0, 0), (0, 1), (3, 30, 1)),
            ((0, 0, 0), (1, 1), (4, 30, 1)), ((11, 59, 6), (1, 0), (0, 59, 6)), ((11, 59, 6), (0, 1), (2, 29, 0)),
            ((0, 0, 0), (-1, 0), (11, 0, 0)), ((0, 0, 0), (0, -1), (9, 30, 6)), ((5, 5, 5), (7, -2), (6, 5, 3)),
            ((5, 5, 5), (12, 28), (5, 5, 5)),
        ):
            with self.subTest(setting=setting, pulls=pulls):
                self.assertEqual(turned(clock(), setting, pulls), told)
                self.assertIs(type(turned(clock(), setting, pulls)), tuple)

    def test_every_setting_and_small_pulls(self):
        vault = Vault([3, 4], [[1, 2], [2, 3], [0, 1]])
        for setting in itertools.product(range(3), range(4)):
            for pulls in itertools.product(range(-3, 4), repeat=3):
                told = turned(vault, setting, pulls)
                self.assertTrue(is_setting(vault, told))
                self.assertEqual(told[0], (setting[0] + pulls[0] + 2 * pulls[1]) % 3)
                self.assertEqual(told[1], (setting[1] + 2 * pulls[0] + 3 * pulls[1] + pulls[2]) % 4)

    def test_thirty_figures(self):
        for first in (BIG, -BIG):
            for second in (10 ** 30 - 1, 1 - 10 ** 30):
                self.assertEqual(
                    turned(clock(), (11, 59, 6), (first, second)),
                    ((11 + first + 3 * second) % 12, (59 + 30 * second) % 60, (6 + second) % 7),
                )

    def test_without_levers(self):
        self.assertEqual(turned(leverless(), (3, 5), ()), (3, 5))
        self.refused(NoPulls, turned, leverless(), (3, 5), (0,))
        self.refused(NoPulls, turned, leverless(), (3, 5), [])

    def test_eight_levers(self):
        vault = Vault([360], [[3 ** place] for place in range(8)])
        for place in range(8):
            pulls = tuple(2 if place == at else 0 for at in range(8))
            self.assertEqual(turned(vault, (1,), pulls), ((1 + 2 * 3 ** place) % 360,))
        self.assertEqual(turned(vault, (0,), (1,) * 8), (sum(3 ** place for place in range(8)) % 360,))

    def test_no_setting(self):
        for thing in THINGS + [(12, 0, 0), (0, -1, 0), (0, 0, 7), (0, True, 0), (0, 0)]:
            self.refused(NoSetting, turned, clock(), thing, (0, 0))

    def test_no_pulls(self):
        for thing in THINGS + [(0, 0, 0), (0, True), (None, 0), [0, 0], (0, "0")]:
            self.refused(NoPulls, turned, clock(), (0, 0, 0), thing)

    def test_no_setting_goes_first(self):
        self.refused(NoSetting, turned, clock(), (0, 0), (0,))
        self.refused(NoSetting, turned, clock(), [0, 0, 0], [0, 0])
        self.refused(NoSetting, turned, clock(), None, None)

    def test_told_again_the_same(self):
        vault = clock()
        told = [turned(vault, (5, 6, 1), (7, -8)) for time in range(3)] + [turned(clock(), (5, 6, 1), (7, -8))]
        self.assertEqual(told, [(0, 6, 0)] * 4)
        self.assertEqual(vault.levers(), ((1, 0, 0), (3, 30, 1)))


class Pulled(Refused):
    def test_once_where_times_are_left_out(self):
        self.assertEqual(pulled(clock(), (0, 0, 0), 0), (1, 0, 0))
        self.assertEqual(pulled(clock(), (11, 59, 6), 0), (0, 59, 6))
        self.assertEqual(pulled(clock(), (11, 59, 6), 1), (2, 29, 0))

    def test_so_many_times(self):
        for times, told in (
            (0, (5, 5, 5)), (1, (8, 35, 6)), (2, (11, 5, 0)), (-1, (2, 35, 4)), (-2, (11, 5, 3)), (28, (5, 5, 5)),
            (-28, (5, 5, 5)),
        ):
            self.assertEqual(pulled(clock(), (5, 5, 5), 1, times), told)
            self.assertIs(type(pulled(clock(), (5, 5, 5), 1, times)), tuple)

    def test_thirty_figures(self):
        for times in (BIG, -BIG, 10 ** 30 - 1, 1 - 10 ** 30):
            self.assertEqual(
                pulled(clock(), (1, 2, 3), 1, times),
                ((1 + 3 * times) % 12, (2 + 30 * times) % 60, (3 + times) % 7),
            )

    def test_every_lever(self):
        for count in range(1, 9):
            vault = Vault([100], [[10 + place] for place in range(count)])
            for lever in range(count):
                self.assertEqual(pulled(vault, (5,), lever), (15 + lever,))
            self.assertEqual(self.refused(NoLever, pulled, vault, (5,), count).lever, count)
            self.assertEqual(self.refused(NoLever, pulled, vault, (5,), -1).lever, -1)

    def test_it_is_as_the_pulls_are(self):
        for times in range(-5, 6):
            self.assertEqual(pulled(clock(), (4, 4, 4), 0, times), turned(clock(), (4, 4, 4), (times, 0)))
            self.assertEqual(pulled(clock(), (4, 4, 4), 1, times), turned(clock(), (4, 4, 4), (0, times)))

    def test_no_setting(self):
        for thing in THINGS + [(12, 0, 0), (0, -1, 0), (0, 0, 7), (False, 0, 0)]:
            self.refused(NoSetting, pulled, clock(), thing, 0)
            self.refused(NoSetting, pulled, clock(), thing, 0, 2)

    def test_no_lever_has_what_was_handed_in(self):
        for thing in (2, 3, -1, -2, BIG, -BIG, True, False, None, "", "0", (), (0,), [], [0], {}, {0: 0}):
            with self.subTest(thing=thing):
                field = self.refused(NoLever, pulled, clock(), (0, 0, 0), thing).lever
                self.assertEqual(field, thing)
                self.assertIs(type(field), type(thing))

    def test_without_levers(self):
        for lever in (0, -1, 1):
            self.assertEqual(self.refused(NoLever, pulled, leverless(), (0, 0), lever).lever, lever)

    def test_times_that_are_no_whole_number(self):
        for thing in NO_NUMBERS:
            self.refused(NoPulls, pulled, clock(), (0, 0, 0), 0, thing)
            self.refused(NoPulls, pulled, clock(), (0, 0, 0), 1, thing)

    def test_which_goes_first(self):
        self.refused(NoSetting, pulled, clock(), (0, 0), 2)
        self.refused(NoSetting, pulled, clock(), [0, 0, 0], 0, None)
        self.refused(NoSetting, pulled, clock(), None, None, None)
        self.assertEqual(self.refused(NoLever, pulled, clock(), (0, 0, 0), 2, None).lever, 2)
        self.assertEqual(self.refused(NoLever, pulled, clock(), (0, 0, 0), "x", "y").lever, "x")

    def test_handed_in_lists_stay(self):
        thing = [0]
        self.refused(NoLever, pulled, clock(), (0, 0, 0), thing)
        self.refused(NoPulls, pulled, clock(), (0, 0, 0), 0, thing)
        self.assertEqual(thing, [0])


class Between(Refused):
    def test_told_values(self):
        for one, other, told in (
            ((0, 0, 0), (0, 0, 0), (0, 0, 0)), ((0, 0, 0), (1, 2, 3), (1, 2, 3)), ((1, 2, 3), (0, 0, 0), (11, 58, 4)),
            ((5, 5, 5), (5, 5, 5), (0, 0, 0)), ((11, 59, 6), (0, 0, 0), (1, 1, 1)), ((0, 0, 0), (11, 59, 6), (11, 59, 6)),
            ((3, 40, 2), (2, 50, 1), (11, 10, 6)),
        ):
            self.assertEqual(between(clock(), one, other), told)
            self.assertIs(type(between(clock(), one, other)), tuple)

    def test_added_to_the_first_it_gives_the_second(self):
        vault = Vault([3, 4], [])
        settings = list(itertools.product(range(3), range(4)))
        for one in settings:
            for other in settings:
                told = between(vault, one, other)
                self.assertTrue(is_setting(vault, told))
                self.assertEqual(((one[0] + told[0]) % 3, (one[1] + told[1]) % 4), other)

    def test_no_setting(self):
        for thing in THINGS + [(12, 0, 0), (0, -1, 0), (0, 0, 7), (0, 0, True)]:
            self.refused(NoSetting, between, clock(), thing, (0, 0, 0))
            self.refused(NoSetting, between, clock(), (0, 0, 0), thing)
            self.refused(NoSetting, between, clock(), thing, thing)


class Unchanged(unittest.TestCase):
    def test_nothing_that_is_asked_changes_the_vault(self):
        vault = clock()
        nought(vault)
        kept(vault, [99, -99, 99])
        turned(vault, (1, 1, 1), (5, 5))
        pulled(vault, (1, 1, 1), 1, -4)
        between(vault, (1, 1, 1), (2, 2, 2))
        for call in (
            lambda: kept(vault, None), lambda: turned(vault, (1, 1, 1), ()), lambda: pulled(vault, (1, 1, 1), 9),
            lambda: between(vault, (1, 1, 1), ()),
        ):
            self.assertRaises(VaultError, call)
        self.assertEqual(vault.sizes(), (12, 60, 7))
        self.assertEqual(vault.levers(), ((1, 0, 0), (3, 30, 1)))
        self.assertEqual(vault.prices(), (1, 5))
        self.assertEqual(vault.around(), 420)


if __name__ == "__main__":
    unittest.main()
