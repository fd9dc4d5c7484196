"""[24] whole numbers as texts; [25] vaults as texts."""

import itertools
import unittest

from dialvault.errors import NoDial, NoLever, NoPrice, NoText, TooMany
from dialvault.texts import read_numbers, read_vault, show_numbers, show_vault
from dialvault.vault import Vault
from plain import BIG, Odd, Refused

NINES = int("9" * 30)
NO_TEXTS = [
    None, True, False, 0, 12, (), (1,), ("1",), [], ["1"], ["1", " ", "2"], {}, {"1": 1}, set(), b"", b"1", b"1 2",
    bytearray(b"1"), Odd(), Odd, str, len, range(3), ...,
]


def parts_of(vault):
    return (vault.sizes(), vault.levers(), vault.prices())


class ShowNumbers(unittest.TestCase):
    def test_told_texts(self):
        for numbers, text in (
            ([], ""), ([0], "0"), ([1], "1"), ([-1], "-1"), ([0, 0], "0 0"), ([1, -2, 30], "1 -2 30"),
            ([10, 100, 1000], "10 100 1000"), ([NINES], "9" * 30), ([-NINES, BIG], "-" + "9" * 30 + " " + str(BIG)),
            ([-0], "0"),
        ):
            self.assertEqual(show_numbers(numbers), text)
            self.assertEqual(show_numbers(tuple(numbers)), text)
            self.assertIs(type(show_numbers(numbers)), str)

    def test_as_many_figures_as_they_need(self):
        self.assertEqual(show_numbers([10 ** 30, -10 ** 40]), "1" + "0" * 30 + " -1" + "0" * 40)

    def test_handed_in_stays(self):
        numbers = [3, -4]
        show_numbers(numbers)
        self.assertEqual(numbers, [3, -4])


class ReadNumbers(Refused):
    def test_told_numbers(self):
        for text, numbers in (
            ("", ()), ("0", (0,)), ("1", (1,)), ("-1", (-1,)), ("0 0", (0, 0)), ("1 -2 30", (1, -2, 30)),
            ("9876543210", (9876543210,)), ("-10 100", (-10, 100)), ("5 5 5 5 5 5 5 5 5", (5,) * 9),
        ):
            self.assertEqual(read_numbers(text), numbers)
            self.assertIs(type(read_numbers(text)), tuple)
            self.assertEqual([type(number) for number in read_numbers(text)], [int] * len(numbers))

    def test_thirty_figures_and_no_more(self):
        for figures in ("9" * 30, "1" + "0" * 29, str(BIG)):
            self.assertEqual(read_numbers(figures), (int(figures),))
            self.assertEqual(read_numbers("-" + figures), (-int(figures),))
            self.assertEqual(read_numbers("1 -" + figures + " 2"), (1, -int(figures), 2))
        for figures in ("9" * 31, "1" + "0" * 30, "1" * 40, "7" * 3000, "0" * 30, "0" * 31):
            for text in (figures, "-" + figures, "1 " + figures, figures + " 1", "1 -" + figures + " 2"):
                self.refused(NoText, read_numbers, text)

    def test_a_long_text(self):
        self.assertEqual(read_numbers(" ".join(["7"] * 2000)), (7,) * 2000)
        self.assertEqual(read_numbers(" ".join(["-" + "8" * 30] * 125)), (-int("8" * 30),) * 125)

    def test_no_such_texts(self):
        for text in (
            "00", "01", "-01", "-00", "-0", "000", "1 02", "1 -0 2", "+1", "+0", "-+1", "+-1", "--1", "-", "- 1", "1-",
            "1-2", "1 - 2", "-1-", "1+2", "1_0", "1,2", "1.0", "1e3", "0x1", "0b1", " ", "  ", " 1", "1 ", "1  2",
            "  1", "1  ", "1 2 ", " 1 2", "\n", "1\n", "\n1", "1\n2", "1 \n2", "1\t2", "\t1", "1\r", "a", "one", "1a",
            "a1", "1 a 2", "O", "l", ":", ";", "1; 2", "1 : 2", "(1)", "[1]", "\u00b2", "\u0661", "\uff11", "1\u00a02",
            "\u22121", "True", "None", "''",
        ):
            with self.subTest(text=text):
                self.refused(NoText, read_numbers, text)

    def test_no_texts(self):
        for thing in NO_TEXTS:
            with self.subTest(kind=type(thing).__name__):
                self.refused(NoText, read_numbers, thing)

    def test_every_short_text(self):
        words = [str(number) for number in range(-2222, 22223) if set(str(number)) <= set("012-")]
        right = {"": ()}
        for count in (1, 2, 3):
            short = [word for word in words if len(word) <= 7 - 2 * count]
            for some in itertools.product(short, repeat=count):
                right[" ".join(some)] = tuple(int(word) for word in some)
        for length in range(6):
            for signs in itertools.product("012- ", repeat=length):
                text = "".join(signs)
                if text in right:
                    self.assertEqual(read_numbers(text), right[text])
                else:
                    self.refused(NoText, read_numbers, text)

    def test_there_and_back(self):
        for numbers in ((), (0,), (NINES, -NINES), tuple(range(-60, 60)), (BIG, 0, -BIG)):
            self.assertEqual(read_numbers(show_numbers(numbers)), numbers)


class ShowVault(unittest.TestCase):
    def test_told_texts(self):
        for vault, text in (
            (Vault([12, 60, 7], [[1, 0, 0], [3, 30, 1]], [1, 5]), "12 60 7; 1 0 0; 3 30 1 : 5"),
            (Vault([2], []), "2"),
            (Vault([360] * 6, []), "360 360 360 360 360 360"),
            (Vault([4, 6], [[0, 0]]), "4 6; 0 0"),
            (Vault([4, 6], [[0, 0]], [1]), "4 6; 0 0"),
            (Vault([4, 6], [[0, 0]], [2]), "4 6; 0 0 : 2"),
            (Vault([4, 6], [[3, 5], [3, 5]], [1000, 1]), "4 6; 3 5 : 1000; 3 5"),
            (Vault([5], [[j] for j in range(8)], [1, 2, 1, 10, 1, 1, 999, 1]),
             "5; 0; 1 : 2; 2; 3 : 10; 4; 0; 1 : 999; 2"),
        ):
            self.assertEqual(show_vault(vault), text)
            self.assertIs(type(show_vault(vault)), str)
            self.assertEqual(parts_of(read_vault(text)), parts_of(vault))

    def test_levers_as_they_are_kept(self):
        self.assertEqual(show_vault(Vault([12, 7], [[-1, 7], [13, -8], [BIG, -BIG]])),
                         f"12 7; 11 0; 1 6; {BIG % 12} {-BIG % 7}")


class ReadVault(Refused):
    def check(self, text, sizes, levers, prices):
        vault = read_vault(text)
        self.assertIsInstance(vault, Vault)
        self.assertEqual(parts_of(vault), (sizes, levers, prices), text)

    def test_the_example(self):
        self.check("12 60 7; 1 0 0; 3 30 1 : 5", (12, 60, 7), ((1, 0, 0), (3, 30, 1)), (1, 5))

    def test_told_vaults(self):
        self.check("2", (2,), (), ())
        self.check("360 2 360 2 360 2", (360, 2, 360, 2, 360, 2), (), ())
        self.check("5; 1 : 1", (5,), ((1,),), (1,))
        self.check("5; 1 : 1000; 2", (5,), ((1,), (2,)), (1000, 1))
        self.check("5; 0; 0; 0; 0; 0; 0; 0; 0 : 7", (5,), ((0,),) * 8, (1,) * 7 + (7,))

    def test_levers_are_kept(self):
        self.check("12 7; -1 7; 25 -8 : 3", (12, 7), ((11, 0), (1, 6)), (1, 3))
        nines = "9" * 30
        self.check(f"11 7; {nines} -{nines}", (11, 7), ((NINES % 11, -NINES % 7),), (1,))

    def test_no_texts(self):
        for thing in NO_TEXTS:
            with self.subTest(kind=type(thing).__name__):
                self.refused(NoText, read_vault, thing)

    def test_no_such_texts(self):
        for text in (
            " ", "a", "12 ", " 12", "12  7", "012", "+12", "-0", "12;", ";", ";12", "12;1", "12;;", "12;; 1",
            "12 ; 1", "12;  1", "12; 1 ", "12; 1;", "12; 1;2", "12; 1 ; 2", "12, 1", "12: 1", "12 : 1", "12 : 1; 1",
            " : 12", "12 : ", "12 :", "12; :", "12; : 5", "12; 1 :", "12; 1 : ", "12; 1: 5", "12; 1 :5", "12; 1:5",
            "12; 1  : 5", "12; 1 :  5", "12; 1 : 5 ", "12; 1 : 5 6", "12; 1 : 5 : 6", "12; 1 : : 5", "12; 1 : 5 :",
            "12; 1 : 5 : ", "12; 1 :  : 5", "12; 1 : a", "12; 1 : 05", "12; 1 : +5", "12; 1 : -0", "12; 1 : 5;", "12; x",
            "12; 01", "12; -0", "12; +1", "12; 1\n", "12\n", "\n", "12;\n1", "12; 1; a", "12; 1 : 2; 3 : b",
            "12; " + "1" * 31, "1" * 31, "12; 1 : " + "1" * 31, "12; 1 ; : 5",
        ):
            with self.subTest(text=text):
                self.refused(NoText, read_vault, text)

    def test_no_text_goes_ahead_of_all_the_others(self):
        for text in (
            "; a", "; 1 : ", "1; a", "2 2 2 2 2 2 2; a", "361; 1 : 5 6", "5; 1 2; a", "5; 1 : 0; a", "5; 1 : 1001; 1 ",
            "5" + "; 1" * 9 + "; x", "5" + "; 1" * 8 + "; 1 :", "5; ; -0",
        ):
            with self.subTest(text=text):
                self.refused(NoText, read_vault, text)

    def test_refused_for_the_sizes(self):
        self.refused(TooMany, read_vault, "2 2 2 2 2 2 2")
        self.refused(TooMany, read_vault, "1 2 2 2 2 2 2; 1 2 : 0")
        for text, dial in (
            ("", 0), ("; ", 0), ("; 1", 0), ("; ; ", 0), ("1", 0), ("361", 0), ("0", 0), ("-5", 0), ("5 1", 1),
            ("5 5 361 1; 1 : 0", 2), ("5 5 5 5 5 1", 5), ("2 " + "9" * 30, 1), ("1" + "; 1" * 9, 0),
        ):
            with self.subTest(text=text):
                self.assertEqual(self.refused(NoDial, read_vault, text).dial, dial)

    def test_refused_for_the_levers(self):
        self.refused(TooMany, read_vault, "5" + "; 1" * 9)
        self.refused(TooMany, read_vault, "5" + "; " * 9)
        self.refused(TooMany, read_vault, "5; 1 2" + "; 1 : 0" * 8)
        for text, lever in (
            ("5; ", 0), ("5; ; 1", 0), ("5; 1; ", 1), ("5; 1; ; 1", 1), ("5; 1 2", 0), ("5 5; 1 2; 1", 1),
            ("5 5; 1 2; 1 2; 1 2 3", 2), ("5;  : 5", 0), ("5; 1;  : 5", 1), ("5; 1 : 0; 1 2", 1), ("5; 1 2 : 0", 0),
            ("5" + "; 1" * 7 + "; ", 7),
        ):
            with self.subTest(text=text):
                self.assertEqual(self.refused(NoLever, read_vault, text).lever, lever)

    def test_refused_for_the_prices(self):
        for text, lever in (
            ("5; 1 : 0", 0), ("5; 1 : -1", 0), ("5; 1 : 1001", 0), ("5; 1; 1 : 0", 1), ("5; 1 : 1000; 1 : 1001; 1 : 0", 1),
            ("5; 1 : " + "9" * 30, 0), ("5" + "; 1" * 7 + "; 1 : -1000", 7),
        ):
            with self.subTest(text=text):
                self.assertEqual(self.refused(NoPrice, read_vault, text).lever, lever)

    def test_told_again_the_same(self):
        one = read_vault("4 6; 2 3 : 9")
        other = read_vault("4 6; 2 3 : 9")
        self.assertEqual(parts_of(one), parts_of(other))
        self.assertEqual(show_vault(one), show_vault(other))


if __name__ == "__main__":
    unittest.main()
