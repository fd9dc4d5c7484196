"""[96] a text of lines, answered by a new desk."""

import unittest

from dialvault.desk import Desk, answers_to
from dialvault.errors import VaultError


class Answers(unittest.TestCase):
    def test_told_values(self):
        text = "vault 12 60 7; 1 0 0; 3 30 1 : 5\nat 13 -1 7\nleast\nto 0 29 0\npull 9 1\ncount"
        self.assertEqual(answers_to(text), [
            (True, "ok"), (True, "1 59 0"), (True, "0 29 0"), (True, "pulls 2 7"), (False, "no lever"), (True, "168 30"),
        ])
        told = answers_to(text)
        self.assertIs(type(told), list)
        self.assertEqual({type(answer) for answer in told}, {tuple})
        self.assertEqual([type(answer[0]) for answer in told], [bool] * 6)
        self.assertEqual([type(answer[1]) for answer in told], [str] * 6)

    def test_the_text_without_signs(self):
        self.assertEqual(answers_to(""), [])

    def test_line_feeds(self):
        none = (False, "no line")
        ok = (True, "ok")
        self.assertEqual(answers_to("\n"), [none, none])
        self.assertEqual(answers_to("\n\n"), [none] * 3)
        self.assertEqual(answers_to("vault 12\n"), [ok, none])
        self.assertEqual(answers_to("\nvault 12"), [none, ok])
        self.assertEqual(answers_to("vault 12\n\nleast\n\n"), [ok, none, (True, "0"), none, none])
        self.assertEqual(answers_to("vault 12; 1"), [ok])
        self.assertEqual(answers_to(" "), [none])

    def test_the_word_of_each_refusal(self):
        ahead = "vault 25 41; 1 0; 0 1\n"
        for line, word in (
            ("at 1", "no setting"), ("at x", "no text"), ("pull 2 1", "no lever"), ("pull 2", "no text"), ("dearest", "too many"),
            ("with 12", "unlike"), ("vault 1", "no dial"), ("vault 12; 1 : 0", "no price"), ("vault 12; 1 1", "no lever"),
            ("lock 1 0 : 7 0", "no lock"), ("lock 1", "no text"), ("leasts", "no line"), ("road 1 1", "too many"),
            ("vault 2 2 2 2 2 2 2", "too many"), ("both x", "no text"), ("alike ", "no dial"),
        ):
            self.assertEqual(answers_to(ahead + line), [(True, "ok"), (False, word)])
            self.assertEqual(answers_to(ahead + line + "\nleast"), [(True, "ok"), (False, word), (True, "0 0")])

    def test_each_text_has_a_new_desk(self):
        self.assertEqual(answers_to("vault 12; 1\nat 5"), [(True, "ok"), (True, "5")])
        self.assertEqual(answers_to("least"), [(False, "no line")])
        self.assertEqual(answers_to("pull 0 0"), [(False, "no line")])

    def test_it_answers_as_a_desk_does(self):
        lines = [
            "least", "vault 4 6; 1 1 : 3; 0 3", "at 3 5", "lock 1 0 : 4 1", "lock 0 1 : 6 2", "open", "least", "x", "idle",
            "few", "clear", "stills", "build", "road 0 0", "dearest", "free", "alike 2", "both 4 6; 2 0", "with 4 6; 2 0", "to 1 1",
            "vault 9", "to 3", "count", "vault ", "count",
        ]
        desk = Desk()
        right = []
        for line in lines:
            try:
                right.append((True, desk.say(line)))
            except VaultError as refusal:
                right.append((False, refusal.word()))
        self.assertEqual(answers_to("\n".join(lines)), right)

    def test_told_again_the_same_and_the_askers_own(self):
        text = "vault 4 6; 1 1\nidle\nx"
        first = answers_to(text)
        kept = list(first)
        first.clear()
        self.assertEqual(answers_to(text), kept)

    def test_a_long_text(self):
        text = "vault 32 32; 1 0; 0 1 : 9\n" + "pull 0 1\npull 1 -1\n" * 200
        told = answers_to(text[:-1])
        self.assertEqual(len(told), 401)
        self.assertEqual(told[-1], (True, f"{200 % 32} {-200 % 32}"))


if __name__ == "__main__":
    unittest.main()
