"""[10] whole numbers; [2] what a whole number is; [6] what is handed in is not changed."""

import math
import unittest

from dialvault.wholes import common, is_whole, multiple_of, product_of, rest_sum
from plain import Odd

BIG = [
    999999999999999999999999999999,
    123456789012345678901234567890,
    -314159265358979323846264338327,
    100000000000000000000000000000,
    -2 ** 99,
    6 ** 38,
    -(3 ** 20) * 7 ** 10,
]


class Counted(int):
    pass


class IsWhole(unittest.TestCase):
    def test_whole_numbers(self):
        for number in [0, 1, -1, 2, 360, -360] + BIG:
            with self.subTest(number=number):
                self.assertIs(is_whole(number), True)

    def test_an_int_of_a_class_under_int(self):
        self.assertIs(is_whole(Counted(3)), True)

    def test_no_whole_numbers(self):
        things = [
            True, False, None, "", "0", "12", (), (1,), (0, 1), [], [1], [[1]], {}, {1: 2}, set(), b"1",
            Odd(), Odd, int, len, ..., range(3),
        ]
        for thing in things:
            with self.subTest(kind=type(thing).__name__):
                self.assertIs(is_whole(thing), False)

    def test_lists_stay_as_they_were(self):
        things = [1, [2], "3"]
        is_whole(things)
        self.assertEqual(things, [1, [2], "3"])


class Common(unittest.TestCase):
    def check(self, one, other):
        told = common(one, other)
        self.assertIs(type(told), tuple)
        self.assertEqual(len(told), 3)
        for number in told:
            self.assertTrue(isinstance(number, int) and not isinstance(number, bool), told)
        self.assertEqual(told[0], math.gcd(one, other), (one, other))
        self.assertEqual(told[1] * one + told[2] * other, told[0], (one, other))

    def test_small_ones_of_either_sign(self):
        for one in range(-45, 46):
            for other in range(-45, 46):
                self.check(one, other)

    def test_thirty_figures(self):
        for one in BIG:
            for other in BIG + [0, 1, -1, 2, -6, 360, 7 ** 10]:
                self.check(one, other)
                self.check(other, one)
                self.check(-one, other)
                self.check(other, -one)

    def test_long_chains(self):
        # Neighbours in this row take the most divisions of all numbers of their length.
        one = 1
        other = 2
        while other < 10 ** 30:
            self.check(one, other)
            self.check(-other, one)
            next_one = one + other
            one = other
            other = next_one

    def test_nought_and_nought(self):
        self.assertEqual(common(0, 0)[0], 0)
        self.assertEqual(len(common(0, 0)), 3)

    def test_nought_and_another(self):
        for number in (1, -1, 5, -5, 360, BIG[0], BIG[2]):
            self.assertEqual(common(0, number)[0], abs(number))
            self.assertEqual(common(number, 0)[0], abs(number))
            self.check(0, number)
            self.check(number, 0)

    def test_told_values(self):
        self.assertEqual(common(12, 18)[0], 6)
        self.assertEqual(common(-12, 18)[0], 6)
        self.assertEqual(common(-12, -18)[0], 6)
        self.assertEqual(common(7, 7)[0], 7)
        self.assertEqual(common(-7, -7)[0], 7)
        self.assertEqual(common(7, -7)[0], 7)

    def test_told_again_the_same(self):
        for one, other in ((12, 18), (-8, 30), (0, 0), (BIG[0], BIG[2])):
            self.assertEqual(common(one, other), common(one, other))


class MultipleOf(unittest.TestCase):
    def test_none_at_all(self):
        self.assertEqual(multiple_of([]), 1)
        self.assertEqual(multiple_of(()), 1)

    def test_told_values(self):
        for numbers, told in (
            ([1], 1), ([7], 7), ([2, 3], 6), ([4, 6], 12), ([6, 4], 12), ([12, 60, 7], 420), ([5, 5, 5], 5),
            ([1, 1], 1), ([2, 4, 8], 8), ([8, 4, 2], 8), ([360, 359], 129240), ([6, 10, 15], 30), ([9, 1], 9),
        ):
            with self.subTest(numbers=numbers):
                self.assertEqual(multiple_of(numbers), told)
                self.assertEqual(multiple_of(tuple(numbers)), told)
                self.assertIs(type(multiple_of(numbers)), int)

    def test_every_two(self):
        for one in range(1, 40):
            for other in range(1, 40):
                self.assertEqual(multiple_of([one, other]), math.lcm(one, other))

    def test_thirty_figures(self):
        numbers = [abs(number) for number in BIG]
        self.assertEqual(multiple_of(numbers), math.lcm(*numbers))
        self.assertEqual(multiple_of(tuple(numbers)), math.lcm(*numbers))

    def test_sixty_numbers(self):
        self.assertEqual(multiple_of(list(range(1, 61))), math.lcm(*range(1, 61)))
        numbers = [10 ** 29 + place for place in range(60)]
        self.assertEqual(multiple_of(numbers), math.lcm(*numbers))

    def test_handed_in_stays(self):
        numbers = [6, 4, 10]
        multiple_of(numbers)
        self.assertEqual(numbers, [6, 4, 10])


class ProductOf(unittest.TestCase):
    def test_none_at_all(self):
        self.assertEqual(product_of([]), 1)
        self.assertEqual(product_of(()), 1)

    def test_told_values(self):
        for numbers, told in (
            ([0], 0), ([5], 5), ([-5], -5), ([2, 3, 7], 42), ([-2, 3], -6), ([-2, -3], 6), ([-1, -1, -1], -1),
            ([4, 0, 9], 0), ([0, 0], 0), ([6, 6], 36), ([1, 1, 1], 1),
        ):
            with self.subTest(numbers=numbers):
                self.assertEqual(product_of(numbers), told)
                self.assertEqual(product_of(tuple(numbers)), told)
                self.assertIs(type(product_of(numbers)), int)

    def test_thirty_figures(self):
        self.assertEqual(product_of(BIG), math.prod(BIG))
        self.assertEqual(product_of(tuple(BIG)), math.prod(BIG))

    def test_sixty_numbers(self):
        numbers = [place - 70 for place in range(60)]
        self.assertEqual(product_of(numbers), math.prod(numbers))

    def test_handed_in_stays(self):
        numbers = [6, -4, 10]
        product_of(numbers)
        self.assertEqual(numbers, [6, -4, 10])


class RestSum(unittest.TestCase):
    def test_no_places(self):
        for by in (1, 2, 360, BIG[0]):
            self.assertEqual(rest_sum([], [], by), 0)
            self.assertEqual(rest_sum((), (), by), 0)
            self.assertEqual(rest_sum([], (), by), 0)

    def test_told_values(self):
        for numbers, others, by, told in (
            ([1], [1], 1, 0), ([1], [1], 2, 1), ([3], [5], 7, 1), ([2, 3], [4, 5], 100, 23), ([2, 3], [4, 5], 23, 0),
            ([2, 3], [4, 5], 24, 23), ([2, 3], [4, 5], 22, 1), ([-1], [1], 5, 4), ([1], [-1], 5, 4),
            ([-1], [-1], 5, 1), ([1, -1], [1, 1], 9, 0), ([1, 2, 3], [0, 0, -1], 10, 7), ([-5], [1], 5, 0),
            ([1, 10], [10, 1], 360, 20), ([7, 0], [1, 8], 1, 0),
        ):
            with self.subTest(numbers=numbers, others=others, by=by):
                self.assertEqual(rest_sum(numbers, others, by), told)
                self.assertEqual(rest_sum(tuple(numbers), tuple(others), by), told)
                self.assertEqual(rest_sum(numbers, tuple(others), by), told)
                self.assertEqual(rest_sum(tuple(numbers), others, by), told)
                self.assertIs(type(rest_sum(numbers, others, by)), int)

    def test_rests_of_every_sum(self):
        for number in range(-20, 21):
            for by in range(1, 15):
                rest = rest_sum([number], [1], by)
                self.assertTrue(0 <= rest <= by - 1)
                self.assertEqual((number - rest) % by, 0)

    def test_thirty_figures(self):
        others = list(reversed(BIG))
        whole = sum(one * other for one, other in zip(BIG, others))
        for by in (1, 2, 360, 10 ** 29 + 7, BIG[0]):
            self.assertEqual(rest_sum(BIG, others, by), whole % by)

    def test_sixty_places(self):
        numbers = [place * place - 900 for place in range(60)]
        others = [7 - 3 * place for place in range(60)]
        whole = sum(numbers[place] * others[place] for place in range(60))
        self.assertEqual(rest_sum(numbers, others, 997), whole % 997)

    def test_handed_in_stays(self):
        numbers = [1, -2, 3]
        others = [-4, 5, 600]
        rest_sum(numbers, others, 7)
        self.assertEqual((numbers, others), ([1, -2, 3], [-4, 5, 600]))


if __name__ == "__main__":
    unittest.main()
