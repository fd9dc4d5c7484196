"""[11] the refusals: their classes, their words, their fields."""

import unittest

from dialvault import errors
from dialvault.errors import (
    NoDial, NoGear, NoLever, NoLine, NoLock, NoNumber, NoPrice, NoPulls, NoSetting, NoText, TooMany, Unlike,
    VaultError,
)

WORDS = [
    (VaultError, "refused"), (NoNumber, "no number"), (NoDial, "no dial"), (NoLever, "no lever"),
    (NoPrice, "no price"), (NoSetting, "no setting"), (NoPulls, "no pulls"), (TooMany, "too many"),
    (Unlike, "unlike"), (NoText, "no text"), (NoGear, "no gear"), (NoLock, "no lock"), (NoLine, "no line"),
]
FIELDS = [(NoDial, "dial"), (NoGear, "dial"), (NoLever, "lever"), (NoPrice, "lever"), (NoLock, "lock")]
WITH_FIELD = [kind for kind, name in FIELDS]
OF_TEXT = [kind for kind, word in WORDS if kind not in WITH_FIELD]
UNDER = [kind for kind, word in WORDS if kind is not VaultError]


def made(kind, number=3):
    return kind(number) if kind in WITH_FIELD else kind("some words")


class Words(unittest.TestCase):
    def test_every_word(self):
        for kind, word in WORDS:
            with self.subTest(kind=kind.__name__):
                self.assertEqual(made(kind).word(), word)
                self.assertIs(type(made(kind).word()), str)

    def test_word_does_not_hang_on_what_it_was_made_of(self):
        for kind, word in WORDS:
            with self.subTest(kind=kind.__name__):
                if kind in WITH_FIELD:
                    self.assertEqual([kind(n).word() for n in (0, 7, -1, 10 ** 30)], [word] * 4)
                else:
                    self.assertEqual([kind(t).word() for t in ("", "no dial", "\n")], [word] * 3)

    def test_word_again_is_the_same(self):
        for kind, word in WORDS:
            refusal = made(kind)
            self.assertEqual([refusal.word(), refusal.word()], [word, word])


class Classes(unittest.TestCase):
    def test_there_are_twelve_under_it(self):
        self.assertEqual(len(UNDER), 12)
        self.assertEqual(len(set(UNDER)), 12)

    def test_straight_under_vault_error(self):
        self.assertTrue(issubclass(VaultError, ValueError))
        for kind in UNDER:
            with self.subTest(kind=kind.__name__):
                self.assertEqual(kind.__bases__, (VaultError,))

    def test_under_none_of_the_others(self):
        for kind in UNDER:
            for other in UNDER:
                with self.subTest(kind=kind.__name__, other=other.__name__):
                    self.assertEqual(isinstance(made(kind), other), kind is other)

    def test_the_plain_refusal_is_none_of_them(self):
        for kind in UNDER:
            self.assertNotIsInstance(VaultError("x"), kind)

    def test_each_is_raised_and_taken_by_name(self):
        for kind, word in WORDS:
            for taken in (kind, VaultError, ValueError):
                with self.subTest(kind=kind.__name__, taken=taken.__name__):
                    with self.assertRaises(taken) as caught:
                        raise made(kind)
                    self.assertEqual(caught.exception.word(), word)

    def test_names_stand_in_the_file(self):
        for kind, word in WORDS:
            self.assertIs(getattr(errors, kind.__name__), kind)


class Fields(unittest.TestCase):
    def test_number_is_the_field(self):
        for kind, name in FIELDS:
            for number in (0, 1, 5, 360, -2, 10 ** 29):
                with self.subTest(kind=kind.__name__, number=number):
                    self.assertEqual(getattr(kind(number), name), number)

    def test_field_is_there_once_it_is_taken(self):
        for kind, name in FIELDS:
            try:
                raise kind(4)
            except VaultError as refusal:
                self.assertEqual(getattr(refusal, name), 4)

    def test_no_lever_and_no_dial_of_whatever_was_handed_in(self):
        for thing in (None, True, False, "0", "", (), (1, 2), [], [3], {}, {"a": 1}, -1):
            with self.subTest(thing=thing):
                self.assertEqual(NoLever(thing).lever, thing)
                self.assertIs(type(NoLever(thing).lever), type(thing))
                self.assertEqual(NoDial(thing).dial, thing)
                self.assertIs(type(NoDial(thing).dial), type(thing))

    def test_two_beside_one_another(self):
        for kind, name in FIELDS:
            with self.subTest(kind=kind.__name__):
                first = kind(1)
                second = kind(2)
                self.assertEqual((getattr(first, name), getattr(second, name)), (1, 2))
                self.assertEqual(first.word(), second.word())

    def test_unlike_kinds_beside_one_another(self):
        refusals = [kind(place) for place, (kind, name) in enumerate(FIELDS)]
        self.assertEqual([getattr(r, name) for r, (kind, name) in zip(refusals, FIELDS)], [0, 1, 2, 3, 4])

    def test_others_are_made_of_a_text(self):
        self.assertEqual(len(OF_TEXT), 8)
        for kind in OF_TEXT:
            for text in ("", "words", "two\nlines"):
                self.assertIsInstance(kind(text), VaultError)


if __name__ == "__main__":
    unittest.main()
