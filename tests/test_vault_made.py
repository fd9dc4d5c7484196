"""[20], [21] a vault is made, or refused with the first that is due; what it tells; [3] its round."""

import math
import unittest

from dialvault.errors import NoDial, NoLever, NoPrice, TooMany, VaultError
from dialvault.vault import Vault, is_pulls, is_setting, nought, pulled

NO_NUMBERS = [True, False, None, "", "2", "12", (), (2,), [], [2], {}]
NO_ROWS = [None, True, False, 0, 1, 12, "", "12", {}, {0: 1, 1: 2}]


class Refusals(unittest.TestCase):
    def refused(self, kind, sizes, levers, *prices):
        with self.assertRaises(VaultError) as caught:
            Vault(sizes, levers, *prices)
        self.assertIs(type(caught.exception), kind, (sizes, levers, prices))
        return caught.exception

    def no_dial(self, dial, sizes, levers, *prices):
        self.assertEqual(self.refused(NoDial, sizes, levers, *prices).dial, dial, sizes)

    def no_lever(self, lever, sizes, levers, *prices):
        self.assertEqual(self.refused(NoLever, sizes, levers, *prices).lever, lever, levers)

    def no_price(self, lever, sizes, levers, *prices):
        self.assertEqual(self.refused(NoPrice, sizes, levers, *prices).lever, lever, prices)


class Sizes(Refusals):
    def test_bounds_of_a_size(self):
        self.assertEqual(Vault([2], []).sizes(), (2,))
        self.assertEqual(Vault([3], []).sizes(), (3,))
        self.assertEqual(Vault([359], []).sizes(), (359,))
        self.assertEqual(Vault([360], []).sizes(), (360,))
        for size in (1, 0, -1, -2, -360, 361, 362, 10 ** 29, -10 ** 29):
            self.no_dial(0, [size], [])

    def test_every_place(self):
        for count in range(1, 7):
            for place in range(count):
                for size in (1, 361, 0, -5, True, None, "7"):
                    sizes = [12] * count
                    sizes[place] = size
                    self.no_dial(place, sizes, [])
                    self.no_dial(place, tuple(sizes), ())

    def test_the_first_of_several(self):
        self.no_dial(1, [2, 1, 361], [])
        self.no_dial(1, [2, 361, 3, 1, None, 0], [])
        self.no_dial(0, [None, 1], [])

    def test_no_numbers(self):
        for thing in NO_NUMBERS:
            self.no_dial(0, [thing, 5, 5], [])
            self.no_dial(1, [5, thing, 5], [])
            self.no_dial(2, [5, 5, thing], [])

    def test_how_many(self):
        self.no_dial(0, [], [])
        self.no_dial(0, (), ())
        self.assertEqual(Vault([2] * 6, []).sizes(), (2,) * 6)
        self.refused(TooMany, [2] * 7, [])
        self.refused(TooMany, (2,) * 7, ())
        self.refused(TooMany, [360] * 40, [])

    def test_too_many_goes_ahead_of_a_wrong_size(self):
        self.refused(TooMany, [1] * 7, [])
        self.refused(TooMany, [None] + [2] * 6, [])
        self.refused(TooMany, [2] * 6 + [361], [])

    def test_sizes_go_ahead_of_levers_and_prices(self):
        self.no_dial(0, [], [[]] * 9)
        self.no_dial(0, [], [None], [0])
        self.no_dial(1, [5, 1], [[0, 0]] * 9)
        self.no_dial(1, [5, 1], [None], [0, 0])
        self.no_dial(1, [5, 361], [], [1])
        self.refused(TooMany, [2] * 7, [None], [0])


class Levers(Refusals):
    def test_how_many(self):
        self.assertEqual(Vault([5], []).levers(), ())
        self.assertEqual(Vault([5], ()).levers(), ())
        self.assertEqual(Vault([5], [[1]]).levers(), ((1,),))
        self.assertEqual(Vault([5], [[j] for j in range(8)]).levers(), tuple((j % 5,) for j in range(8)))
        self.refused(TooMany, [5], [[1]] * 9)
        self.refused(TooMany, [5], ((1,),) * 9)
        self.refused(TooMany, [5], [[1]] * 30)

    def test_too_many_goes_ahead_of_a_wrong_lever(self):
        self.refused(TooMany, [5], [None] * 9)
        self.refused(TooMany, [5], [[1, 2]] + [[1]] * 8)
        self.refused(TooMany, [5], [[1]] * 8 + ["x"])

    def test_no_rows(self):
        for thing in NO_ROWS:
            self.no_lever(0, [5, 7], [thing, [0, 0], [0, 0]])
            self.no_lever(1, [5, 7], [[0, 0], thing, [0, 0]])
            self.no_lever(2, [5, 7], [[0, 0], [0, 0], thing])

    def test_every_place(self):
        for count in range(1, 9):
            for place in range(count):
                for wrong in (None, (), (1,), [1, 2, 3], (1, None)):
                    levers = [(1, 2)] * count
                    levers[place] = wrong
                    self.no_lever(place, [5, 7], levers)
                    self.no_lever(place, (5, 7), tuple(levers))

    def test_one_number_more_or_less(self):
        for count in range(1, 7):
            sizes = [9] * count
            self.assertEqual(Vault(sizes, [[1] * count]).levers(), ((1,) * count,))
            self.no_lever(0, sizes, [[1] * (count - 1)])
            self.no_lever(0, sizes, [[1] * (count + 1)])
            self.no_lever(0, sizes, [(1,) * (count - 1)])
            self.no_lever(0, sizes, [(1,) * (count + 1)])

    def test_no_numbers_within(self):
        for thing in NO_NUMBERS:
            self.no_lever(0, [5, 7, 9], [[thing, 0, 0]])
            self.no_lever(0, [5, 7, 9], [[0, thing, 0]])
            self.no_lever(0, [5, 7, 9], [(0, 0, thing)])

    def test_the_first_of_several(self):
        self.no_lever(1, [5], [[1], [], None])
        self.no_lever(0, [5], [[True], [1], [1, 1]])

    def test_levers_go_ahead_of_prices(self):
        self.no_lever(2, [5], [[1], [1], None], [0, 0, 0])
        self.no_lever(1, [5], [[1], [1, 1]], [])
        self.no_lever(0, [5], [None], [1, 1, 1])
        self.refused(TooMany, [5], [[1]] * 9, [0] * 9)
        self.refused(TooMany, [5], [[1]] * 9, [])

    def test_they_are_kept(self):
        vault = Vault([12, 60, 7], [[13, -1, 7], (-12, 59, 8), [0, 60, -8]])
        self.assertEqual(vault.levers(), ((1, 59, 0), (0, 59, 1), (0, 0, 6)))

    def test_thirty_figures_are_kept(self):
        big = 123456789012345678901234567890
        vault = Vault([360, 7, 2], [[big, big, big], [-big, -big, -big], [-big - 1, big + 1, big + 1]])
        self.assertEqual(vault.levers(), (
            (big % 360, big % 7, big % 2),
            (-big % 360, -big % 7, -big % 2),
            ((-big - 1) % 360, (big + 1) % 7, (big + 1) % 2),
        ))
        for lever in vault.levers():
            self.assertTrue(is_setting(vault, lever))

    def test_alike_levers_and_nought_are_kept_as_they_come(self):
        vault = Vault([4, 4], [[0, 0], [3, 1], [3, 1], [0, 0], [4, 4]])
        self.assertEqual(vault.levers(), ((0, 0), (3, 1), (3, 1), (0, 0), (0, 0)))


class Prices(Refusals):
    def test_left_out_or_none(self):
        for count in range(9):
            levers = [[1]] * count
            self.assertEqual(Vault([5], levers).prices(), (1,) * count)
            self.assertEqual(Vault([5], levers, None).prices(), (1,) * count)

    def test_told_as_they_are(self):
        self.assertEqual(Vault([5], [[1], [2], [3]], [5, 1, 1000]).prices(), (5, 1, 1000))
        self.assertEqual(Vault([5], [[1], [2], [3]], (7, 7, 999)).prices(), (7, 7, 999))
        self.assertEqual(Vault([5], [], []).prices(), ())
        self.assertEqual(Vault([5], (), ()).prices(), ())

    def test_bounds(self):
        for price in (1, 2, 999, 1000):
            self.assertEqual(Vault([5], [[1]], [price]).prices(), (price,))
        for price in (0, -1, -1000, 1001, 1002, 10 ** 29, -10 ** 29):
            self.no_price(0, [5], [[1]], [price])

    def test_every_place(self):
        for count in range(1, 9):
            for place in range(count):
                for wrong in (0, 1001, None, True, "1"):
                    prices = [1000] * count
                    prices[place] = wrong
                    self.no_price(place, [5], [[1]] * count, prices)
                    self.no_price(place, [5], [[1]] * count, tuple(prices))

    def test_no_numbers(self):
        for thing in NO_NUMBERS:
            self.no_price(0, [5], [[1]] * 3, [thing, 1, 1])
            self.no_price(1, [5], [[1]] * 3, [1, thing, 1])
            self.no_price(2, [5], [[1]] * 3, [1, 1, thing])

    def test_too_few(self):
        self.no_price(0, [5], [[1]], [])
        self.no_price(0, [5], [[1]] * 8, ())
        self.no_price(1, [5], [[1]] * 3, [4])
        self.no_price(2, [5], [[1]] * 3, [4, 4])
        self.no_price(7, [5], [[1]] * 8, [4] * 7)

    def test_too_many(self):
        self.no_price(0, [5], [], [1])
        self.no_price(1, [5], [[1]], [1, 1])
        self.no_price(1, [5], [[1]], (1, 1, 1))
        self.no_price(8, [5], [[1]] * 8, [1] * 9)
        self.no_price(3, [5], [[1]] * 3, [1] * 20)

    def test_a_wrong_price_ahead_of_one_too_few_or_too_many(self):
        self.no_price(1, [5], [[1]] * 4, [1, 0, 1])
        self.no_price(0, [5], [[1]] * 2, [1001])
        self.no_price(1, [5], [[1]] * 2, [1, 1001, 1])
        self.no_price(2, [5], [[1]] * 2, [1, 1, 0])

    def test_the_first_of_several(self):
        self.no_price(1, [5], [[1]] * 4, [1, 1001, 0, None])


class Tells(unittest.TestCase):
    def test_kinds(self):
        for vault in (
            Vault([12, 60, 7], [[1, 0, 0], [3, 30, 1]], [1, 5]),
            Vault((12, 60, 7), ((1, 0, 0), (3, 30, 1)), (1, 5)),
            Vault([12, 60, 7], ((1, 0, 0), [3, 30, 1]), (1, 5)),
        ):
            self.assertEqual(vault.sizes(), (12, 60, 7))
            self.assertEqual(vault.levers(), ((1, 0, 0), (3, 30, 1)))
            self.assertEqual(vault.prices(), (1, 5))
            self.assertEqual(vault.around(), 420)
            for told in (vault.sizes(), vault.levers(), vault.prices()) + vault.levers():
                self.assertIs(type(told), tuple)
            for number in vault.sizes() + vault.prices() + vault.levers()[0] + (vault.around(),):
                self.assertIs(type(number), int)

    def test_the_round(self):
        for sizes, around in (
            ([2], 2), ([360], 360), ([2, 2], 2), ([2, 3], 6), ([4, 6], 12), ([6, 4], 12), ([8, 4, 2], 8),
            ([6, 10, 15], 30), ([360, 359], 129240), ([7, 11, 13, 17, 19, 23], 7436429),
            ([360, 359, 353, 349, 347, 343], 360 * 359 * 353 * 349 * 347 * 343),
        ):
            with self.subTest(sizes=sizes):
                self.assertEqual(Vault(sizes, []).around(), around)
                self.assertEqual(Vault(tuple(sizes), [[1] * len(sizes)]).around(), around)

    def test_the_round_is_the_least_that_all_sizes_divide(self):
        for one in range(2, 30):
            for other in range(2, 30):
                self.assertEqual(Vault([one, other], []).around(), math.lcm(one, other))

    def test_told_again_and_of_another_made_alike(self):
        vault = Vault([4, 6], [[1, 5], [3, 3]], [2, 3])
        again = Vault((4, 6), ((5, -1), (-1, 9)), (2, 3))
        for told in (vault, vault, again):
            self.assertEqual(
                (told.sizes(), told.levers(), told.prices(), told.around()),
                ((4, 6), ((1, 5), (3, 3)), (2, 3), 12),
            )

    def test_two_vaults_beside_one_another(self):
        one = Vault([4], [[1]], [9])
        other = Vault([6, 7], [], [])
        self.assertEqual((one.sizes(), one.levers(), one.prices(), one.around()), ((4,), ((1,),), (9,), 4))
        self.assertEqual((other.sizes(), other.levers(), other.prices(), other.around()), ((6, 7), (), (), 42))


class HandedIn(unittest.TestCase):
    def test_is_not_changed(self):
        sizes = [4, 6]
        levers = [[-1, 13], [9, 9]]
        prices = [2, 3]
        Vault(sizes, levers, prices)
        self.assertEqual((sizes, levers, prices), ([4, 6], [[-1, 13], [9, 9]], [2, 3]))

    def test_is_not_changed_when_refused(self):
        sizes = [4, 6]
        levers = [[-1, 13], [9, 9]]
        prices = [2, 0]
        self.assertRaises(NoPrice, Vault, sizes, levers, prices)
        levers.append([1])
        self.assertRaises(NoLever, Vault, sizes, levers, prices)
        sizes.append(1)
        self.assertRaises(NoDial, Vault, sizes, levers, prices)
        self.assertEqual((sizes, levers, prices), ([4, 6, 1], [[-1, 13], [9, 9], [1]], [2, 0]))

    def test_changed_behind_changes_nothing(self):
        sizes = [4, 6]
        inner = [1, 5]
        levers = [inner, [3, 3]]
        prices = [2, 3]
        vault = Vault(sizes, levers, prices)
        sizes[0] = 9
        sizes.append(5)
        inner[0] = 0
        inner.append(7)
        levers[1] = [0, 0]
        levers.append([1, 1])
        prices[1] = 77
        prices.pop(0)
        self.assertEqual(vault.sizes(), (4, 6))
        self.assertEqual(vault.levers(), ((1, 5), (3, 3)))
        self.assertEqual(vault.prices(), (2, 3))
        self.assertEqual(vault.around(), 12)
        self.assertEqual(nought(vault), (0, 0))
        self.assertEqual(pulled(vault, (0, 0), 0), (1, 5))
        self.assertTrue(is_setting(vault, (3, 5)))
        self.assertFalse(is_setting(vault, (8, 5)))
        self.assertTrue(is_pulls(vault, (1, 1)))

    def test_lists_within_a_tuple_changed_behind(self):
        inner = [1, 5]
        vault = Vault((4, 6), (inner,))
        inner[1] = 0
        self.assertEqual(vault.levers(), ((1, 5),))

    def test_the_default_price_is_each_vaults_own(self):
        one = Vault([4], [[1]])
        Vault([4], [[1], [2]], [5, 6])
        self.assertEqual(one.prices(), (1,))
        self.assertEqual(Vault([4], [[1], [2], [3]]).prices(), (1, 1, 1))


if __name__ == "__main__":
    unittest.main()
