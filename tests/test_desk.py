"""[90] to [95] the lines of a desk: what is answered, what is refused, and what is at hand behind it."""

import random
import unittest

from dialvault.desk import Desk
from dialvault.errors import (
    NoDial, NoLever, NoLine, NoLock, NoPrice, NoSetting, NoText, TooMany, Unlike, VaultError,
)
from dialvault.locks import Lock, Shut
from dialvault.vault import Vault
from plain import (
    BIG, SMALL, THINGS, Refused, clear_told, doings, drawn_levers, more_small, normal_forms, plus, reached, settings,
    step_rows, weight_of,
)
from plain import stills as still_weights

CLOCK = "12 60 7; 1 0 0; 3 30 1 : 5"
ALONE = ["least", "count", "idle", "few", "clear", "stills", "build", "free", "open", "dearest"]
FOLLOWED = ["vault", "at", "pull", "to", "with", "both", "alike", "lock", "road"]
# These tell all that a desk keeps: each of them is answered or refused as that is.
PROBES = [
    "pull 0 0", "least", "count", "idle", "few", "clear", "stills", "build", "road 0 0 0", "dearest", "open",
    "pull 0 0", "lock 0 0 0 : 2 0", "free", "pull 1 1", "to 0 0 0",
]


def desk_of(*lines):
    desk = Desk()
    for line in lines:
        desk.say(line)
    return desk


def words(numbers):
    return " ".join(str(number) for number in numbers)


def vault_text(sizes, levers, prices=None):
    parts = [words(sizes)]
    for place, lever in enumerate(levers):
        price = 1 if prices is None else prices[place]
        parts.append(words(lever) + (f" : {price}" if price != 1 else ""))
    return "; ".join(parts)


def numbers_behind(word, answer):
    assert answer.split(" ")[0] == word, answer
    return tuple(int(number) for number in answer.split(" ")[1:])


def answers(desk, lines):
    told = []
    for line in lines:
        try:
            told.append(desk.say(line))
        except VaultError as refusal:
            told.append(type(refusal))
    return told


class Lines(Refused):
    def test_ahead_of_any_vault(self):
        for desk in (Desk(), desk_of()):
            for word in ALONE + FOLLOWED[1:]:
                for line in (word, word + " ", word + " 0", word + " 12 60 7", word + " 0 0 0 : 2 0", word + " x"):
                    self.refused(NoLine, desk.say, line)
            for line in ("", " ", "vault", "Vault 12", "vaults 12", "12", " vault 12", "vault\n12", "vault;12"):
                self.refused(NoLine, desk.say, line)
            for thing in THINGS:
                if not isinstance(thing, str):
                    self.refused(NoLine, desk.say, thing)

    def test_behind_a_refused_vault_there_is_none(self):
        for line, kind in (("vault ", NoDial), ("vault x", NoText), ("vault 12; 1 1", NoLever), ("vault 1", NoDial)):
            desk = Desk()
            self.refused(kind, desk.say, line)
            for other in ALONE + ["at 0", "pull 0 1"]:
                self.refused(NoLine, desk.say, other)
            self.assertEqual(desk.say("vault 12; 1"), "ok")
            self.assertEqual(desk.say("least"), "0")

    def test_every_other_line(self):
        desk = desk_of("vault " + CLOCK)
        for word in ALONE:
            for line in (word + " ", " " + word, word + " 0", word + "  ", word + "\n", word.upper(), word + ";", word + "s"):
                self.refused(NoLine, desk.say, line)
        for word in FOLLOWED:
            for line in (word, " " + word + " 0 0 0", word + "\n", word + "0 0 0", word.upper() + " 0 0 0", word + "\t0"):
                self.refused(NoLine, desk.say, line)
        for line in ("", " ", "  ", "none", "ok", "pulls 1 2", "0 0 0", "vault", "\n", "say least", "quit", "lever 0"):
            self.refused(NoLine, desk.say, line)
        for thing in THINGS:
            if not isinstance(thing, str):
                self.refused(NoLine, desk.say, thing)

    def test_a_blank_and_nothing_behind_it(self):
        desk = desk_of("vault " + CLOCK)
        for word, kind in (
            ("at", NoSetting), ("to", NoSetting), ("road", NoSetting), ("pull", NoText), ("lock", NoText),
            ("vault", NoDial), ("with", NoDial), ("both", NoDial), ("alike", NoDial),
        ):
            self.refused(kind, desk.say, word + " ")

    def test_blanks_doubled(self):
        desk = desk_of("vault " + CLOCK)
        for line in (
            "at  0 0 0", "at 0  0 0", "at 0 0 0 ", "to  0 0 0", "to 0 0 0 ", "road  0 0 0", "road 0 0  0", "pull  0 1",
            "pull 0  1", "pull 0 1 ", "vault  12", "vault 12 ; 1", "vault 12;  1", "with  " + CLOCK, "both " + CLOCK + " ",
            "alike  12", "lock  0 0 0 : 2 0", "lock 0 0 0  : 2 0", "lock 0 0 0 :  2 0", "lock 0 0 0 : 2  0",
            "lock 0 0 0 : 2 0 ", "at  ", "to  ", "pull  ", "vault  ", "lock  ",
        ):
            self.refused(NoText, desk.say, line)

    def test_what_can_be_read_goes_first(self):
        desk = desk_of("vault " + CLOCK)
        for word in ("at", "to", "road"):
            for behind in ("x", "0 x", "0 0 -0", "0 0 00", "+1 0 0", "0 0 1.5", "0;0;0", "1" * 31, "0 0 " + "9" * 31, "0,0,0"):
                self.refused(NoText, desk.say, word + " " + behind)
            for behind in ("0", "0 0", "0 0 0 0", "9" * 30, "-1", "0 0 0 0 0 0 0 0"):
                self.refused(NoSetting, desk.say, word + " " + behind)


class Moves(Refused):
    def test_vault(self):
        desk = Desk()
        self.assertEqual(desk.say("vault " + CLOCK), "ok")
        self.assertEqual(desk.say("pull 0 0"), "0 0 0")
        self.assertEqual(desk.say("at 1 1 1"), "1 1 1")
        self.assertEqual(desk.say("lock 1 0 0 : 12 3"), "locks 1")
        # A vault told anew, the same one too, has nought at hand and no locks.
        self.assertEqual(desk.say("vault " + CLOCK), "ok")
        self.assertEqual(desk.say("pull 0 0"), "0 0 0")
        self.assertEqual(desk.say("lock 1 0 0 : 12 3"), "locks 1")
        self.assertEqual(desk.say("vault 4 6"), "ok")
        self.assertEqual(desk.say("least"), "0 0")
        self.assertEqual(desk.say("count"), "1 24")
        self.assertEqual(desk.say("open"), "pulls")

    def test_vault_refused(self):
        for behind, kind in (
            ("x", NoText), ("12;1", NoText), ("12; 1 : ", NoText), ("12; 1 : 1 1", NoText), ("2 2 2 2 2 2 2", TooMany),
            ("", NoDial), ("1", NoDial), ("12 361", NoDial), ("12" + "; 1" * 9, TooMany), ("12; 1 1", NoLever),
            ("12; ", NoLever), ("12; 1 : 0", NoPrice), ("12; 1 : 1001", NoPrice), ("1; x", NoText), ("1; 1 1", NoDial),
        ):
            self.refused(kind, Desk().say, "vault " + behind)
            for word in ("vault", "with", "both", "alike"):
                self.refused(kind, desk_of("vault " + CLOCK).say, word + " " + behind)

    def test_at(self):
        desk = desk_of("vault " + CLOCK)
        for behind, right in (
            ("0 0 0", "0 0 0"), ("11 59 6", "11 59 6"), ("12 60 7", "0 0 0"), ("-1 -1 -1", "11 59 6"), ("13 -61 700", "1 59 0"),
            (f"{BIG} -{BIG} 0", f"{BIG % 12} {-BIG % 60} 0"), ("9" * 30 + " 0 0", f"{(10 ** 30 - 1) % 12} 0 0"),
        ):
            self.assertEqual(desk.say("at " + behind), right)
            self.assertEqual(desk.say("pull 0 0"), right)

    def test_pull(self):
        desk = desk_of("vault " + CLOCK, "at 5 5 5")
        for behind, right in (
            ("0 1", "6 5 5"), ("0 -7", "11 5 5"), ("1 1", "2 35 6"), ("1 -1", "11 5 5"), ("1 0", "11 5 5"),
            ("0 12", "11 5 5"), (f"0 {12 * BIG // 10}", None), ("0 " + "-" + "1" + "0" * 29, None),
        ):
            told = desk.say("pull " + behind)
            if right is not None:
                self.assertEqual(told, right)
            self.assertEqual(desk.say("pull 0 0"), told)
        desk = desk_of("vault 12; 1")
        self.assertEqual(desk.say("pull 0 1" + "0" * 29), str(10 ** 29 % 12))
        self.assertEqual(desk.say("pull 0 -" + "9" * 30), str((10 ** 29 - 10 ** 30 + 1) % 12))

    def test_pull_refused(self):
        desk = desk_of("vault " + CLOCK)
        for behind in ("0", "", "0 1 1", "x 1", "0 x", "0 1.5", "00 1", "0 -0", "0 +1", "0; 1", "x", "9 x", "0 " + "1" * 31):
            self.refused(NoText, desk.say, "pull " + behind)
        for lever in (2, 3, -1, -2, 8, BIG, -BIG):
            self.assertEqual(self.refused(NoLever, desk.say, f"pull {lever} 1").lever, lever)
        self.assertEqual(self.refused(NoLever, desk_of("vault 12").say, "pull 0 0").lever, 0)

    def test_to(self):
        desk = desk_of("vault " + CLOCK)
        self.assertEqual(desk.say("to 3 30 1"), "pulls 0 1")
        self.assertEqual(desk.say("pull 0 0"), "3 30 1")
        self.assertEqual(desk.say("to 0 0 0"), "pulls 6 13")
        self.assertEqual(desk.say("to 12 -60 7"), "pulls 0 0")
        told = numbers_behind("weights", desk.say("to 0 1 0"))
        self.assertNotEqual(weight_of((12, 60, 7), told, (0, 1, 0)), 0)
        self.assertEqual(desk.say("pull 0 0"), "0 0 0")

    def test_to_on_small_vaults(self):
        chance = random.Random(91)
        for sizes, levers in SMALL + more_small(91, 20, 60):
            desk = desk_of("vault " + vault_text(sizes, levers))
            forms = normal_forms(sizes, levers)
            at = (0,) * len(sizes)
            for _ in range(12):
                goal = chance.choice(settings(sizes))
                difference = plus(sizes, goal, at, -1)
                answer = desk.say("to " + words(n + size * chance.randint(-2, 2) for n, size in zip(goal, sizes)))
                if difference in forms:
                    self.assertEqual(answer, " ".join(["pulls"] + [str(n) for n in forms[difference][0]]))
                    at = goal
                else:
                    told = numbers_behind("weights", answer)
                    self.assertIn(told, still_weights(sizes, levers))
                    self.assertNotEqual(weight_of(sizes, told, difference), 0)
                self.assertEqual(desk.say("at " + words(at)), words(at))

    def test_where_there_are_no_levers(self):
        desk = desk_of("vault 4 6", "at 3 5")
        self.assertEqual(desk.say("to 3 5"), "pulls")
        self.assertEqual(desk.say("open"), "pulls")
        self.assertEqual(desk.say("idle"), "none")
        self.assertEqual(desk.say("few"), "none")
        self.assertEqual(desk.say("road 3 5"), "0")
        self.assertEqual(desk.say("dearest"), "0 3 5")
        self.assertEqual(desk.say("clear"), "4 6")
        self.assertEqual(desk.say("with 4 6"), "4 6")
        self.assertEqual(desk.say("to 3 4").split(" ")[0], "weights")


class Tells(Refused):
    def test_told_values(self):
        desk = desk_of("vault " + CLOCK, "at 11 59 6")
        for line, right in (
            ("least", "0 29 0"), ("count", "168 30"), ("idle", "12 0; 6 14"), ("few", "0 1"),
            ("clear", "12 60 7; 1 0 0; 0 30 0; 0 0 1"), ("stills", "12 60 7; 0 2 0"), ("build", "1 1 30"),
            ("with 12 60 7; 0 1 0 : 9", "12 60 7; 1 0 0; 0 1 0; 0 0 1"), ("both 12 60 7; 2 10 0", "12 60 7; 6 30 0"),
            ("both 12 60 7", "12 60 7"), ("alike 30", "alike"), ("alike 5 6 2; 0 0 1", "alike"), ("alike 12", "unlike 4 2 4"),
            ("alike 2 30", "unlike 2 2 4"), ("alike " + CLOCK, "alike"),
        ):
            self.assertEqual(desk.say(line), right)
            self.assertEqual(desk.say("pull 0 0"), "11 59 6")
        desk = desk_of("vault 12; 0; 8; 6; 4; 2 : 7")
        self.assertEqual(desk.say("few"), "4")
        self.assertEqual(desk.say("idle"), "1 0 0 0 0; 0 3 0 0 0; 0 0 2 0 0; 0 1 0 1 0; 0 2 1 0 1")
        self.assertEqual(desk_of("vault 12; 0; 0").say("few"), "none")
        self.assertEqual(desk_of("vault 12; 0; 0").say("idle"), "1 0; 0 1")

    def test_small_vaults_gone_through(self):
        chance = random.Random(92)
        for sizes, levers in SMALL + more_small(92, 30, 100):
            prices = [chance.choice((1, 1, 7, 1000)) for _ in levers]
            setting = chance.choice(settings(sizes))
            desk = desk_of("vault " + vault_text(sizes, levers, prices), "at " + words(setting))
            done = doings(sizes, levers)
            self.assertEqual(desk.say("least"), words(min(plus(sizes, setting, doing) for doing in done)))
            self.assertEqual(desk.say("count"), f"{len(done)} {len(settings(sizes)) // len(done)}")
            self.assertEqual(desk.say("clear"), vault_text(sizes, [row for row in step_rows(sizes, levers) if any(row)]))
            still = clear_told(sizes, still_weights(sizes, levers))
            self.assertEqual(desk.say("stills"), vault_text(sizes, still[1]))
            idle = desk.say("idle").split("; ") if levers else []
            self.assertEqual(len(idle), len(levers))
            for row in idle:
                pulls = [int(times) for times in row.split(" ")]
                self.assertEqual(reached(sizes, (0,) * len(sizes), levers, pulls), (0,) * len(sizes))
            few = desk.say("few")
            places = [] if few == "none" else [int(place) for place in few.split(" ")]
            self.assertEqual(places, sorted(places))
            self.assertEqual(doings(sizes, [levers[place] for place in places]), done)
            numbers = [int(number) for number in desk.say("build").split(" ")]
            self.assertEqual(len(numbers), len(sizes))
            other = drawn_levers(chance, sizes, chance.randint(0, 3), chance.choice((1, 2, 3)))
            text = vault_text(sizes, other, [chance.choice((1, 5)) for _ in other])
            sums = {plus(sizes, a, b) for a in done for b in doings(sizes, other)}
            self.assertEqual(desk.say("with " + text), vault_text(sizes, clear_told(sizes, sums)[1]))
            self.assertEqual(desk.say("both " + text), vault_text(sizes, clear_told(sizes, done & doings(sizes, other))[1]))
            self.assertEqual(desk.say("at " + words(setting)), words(setting))

    def test_unlike_dials(self):
        desk = desk_of("vault " + CLOCK)
        for text in ("12", "12 60", "60 12 7", "12 60 8; 1 1 1", "12 60 7 2", "2 2 2 2 2 2"):
            self.refused(Unlike, desk.say, "with " + text)
            self.refused(Unlike, desk.say, "both " + text)
            self.assertIn(desk.say("alike " + text).split(" ")[0], ("alike", "unlike"))

    def test_the_counts_stand_in_their_order(self):
        self.assertEqual(desk_of("vault 12").say("alike 2 6"), "unlike 2 2 4")
        self.assertEqual(desk_of("vault 2 6").say("alike 12"), "unlike 2 4 2")
        self.assertEqual(desk_of("vault 359").say("alike 2; 1"), "unlike 359 359 1")


class Locks(Refused):
    def test_told_values(self):
        desk = desk_of("vault " + CLOCK)
        self.assertEqual(desk.say("lock 1 0 0 : 12 5"), "locks 1")
        self.assertEqual(desk.say("lock 0 0 1 : 7 5"), "locks 2")
        pulls = numbers_behind("pulls", desk.say("open"))
        setting = reached((12, 60, 7), (0, 0, 0), ((1, 0, 0), (3, 30, 1)), pulls)
        self.assertEqual((setting[0], setting[2]), (5, 5))
        self.assertEqual(desk.say("pull 0 0"), words(setting))
        self.assertEqual(desk.say("lock 0 1 0 : 30 1"), "locks 3")
        shares = numbers_behind("shares", desk.say("open"))
        self.assertEqual(len(shares), 3)
        self.assertEqual(desk.say("pull 0 0"), words(setting))
        self.assertEqual(desk.say("free"), "locks 0")
        self.assertEqual(desk.say("free"), "locks 0")
        self.assertEqual(numbers_behind("pulls", desk.say("open")), (0, 0))
        self.assertEqual(desk.say("lock -30 -6 -360 : 360 -" + "9" * 30), "locks 1")
        self.assertEqual(desk.say("pull 0 0"), words(setting))

    def test_six_and_one_more(self):
        desk = desk_of("vault " + CLOCK)
        for count in range(1, 7):
            self.assertEqual(desk.say("lock 0 0 1 : 7 5"), f"locks {count}")
        for behind in ("0 0 1 : 7 5", "0 0 1 : 8 5", "0 : 7 5", " : 7 5", "0 0 1 : 1 1"):
            self.refused(TooMany, desk.say, "lock " + behind)
        for behind in ("0 0 1 : 7", "", "x", "0 0 1: 7 5", "0 0 1 : 7 5 5"):
            self.refused(NoText, desk.say, "lock " + behind)
        self.assertEqual(desk.say("open").split(" ")[0], "pulls")
        self.assertEqual(desk.say("free"), "locks 0")
        self.assertEqual(desk.say("lock 0 0 1 : 7 5"), "locks 1")

    def test_no_text(self):
        desk = desk_of("vault " + CLOCK)
        for behind in (
            "", "0 0 1", "0 0 1 7 5", "0 0 1 : ", "0 0 1 : 7", "0 0 1 : 7 5 5", "0 0 1 : 7 x", "x 0 1 : 7 5", "0 0 1 :7 5",
            "0 0 1: 7 5", "0 0 1 : 7 : 5", ": 7 5", "0 0 1 ; 7 5", "0 0 1 : 7 5 : 1", "0 : 0 1 : 7 5", "0 0 01 : 7 5",
            "0 0 1 : 7 " + "1" * 31, "0 0 -0 : 7 5", " : ", " :  : 7 5", "0 0 1 : 7 5\n",
        ):
            self.refused(NoText, desk.say, "lock " + behind)
        self.assertEqual(desk.say("lock 0 0 1 : 7 5"), "locks 1")

    def test_no_lock(self):
        for stands in range(6):
            desk = desk_of("vault " + CLOCK, *["lock 0 0 1 : 7 5"] * stands)
            for behind in (
                "0 0 1 : 8 5", "0 0 : 7 5", "0 0 1 0 : 7 5", " : 7 5", "0 0 0 : 1 0", "0 0 0 : 361 0", "0 0 0 : 0 0",
                "0 0 0 : -7 0", "1 0 0 : 7 1", "0 1 0 : 7 1", f"0 0 0 : {BIG} 0", "0 : 2 0",
            ):
                self.assertEqual(self.refused(NoLock, desk.say, "lock " + behind).lock, stands)
            self.assertEqual(desk.say("lock 0 0 0 : 360 0"), f"locks {stands + 1}")

    def test_open_on_small_vaults(self):
        chance = random.Random(94)
        seen = {"pulls": 0, "shares": 0}
        for sizes, levers in SMALL + more_small(94, 40, 80):
            start = chance.choice(settings(sizes))
            desk = desk_of("vault " + vault_text(sizes, levers), "at " + words(start))
            near = {plus(sizes, start, doing) for doing in doings(sizes, levers)}
            goal = chance.choice(sorted(near) + settings(sizes)[:1] * len(near))
            locks = []
            for count in range(1, 4):
                dial = chance.randrange(len(sizes))
                factors = [chance.randint(-3, 3) if sizes[k] == sizes[dial] else 0 for k in range(len(sizes))]
                rest = sum(factor * notch for factor, notch in zip(factors, goal)) + sizes[dial] * chance.randint(-2, 2)
                locks.append((factors, sizes[dial], rest))
                self.assertEqual(desk.say(f"lock {words(factors)} : {sizes[dial]} {locks[-1][2]}"), f"locks {count}")
            answer = desk.say("open")
            word = answer.split(" ")[0]
            seen[word] += 1
            met = [
                setting for setting in settings(sizes)
                if all((sum(f * n for f, n in zip(fs, setting)) - rest) % by == 0 for fs, by, rest in locks)
            ]
            if word == "pulls":
                start = reached(sizes, start, levers, numbers_behind("pulls", answer))
                self.assertIn(start, met)
            else:
                self.assertFalse(near & set(met))
                shares = Shut(numbers_behind("shares", answer))
                self.assertIs(shares.bars(Vault(sizes, levers), start, [Lock(*lock) for lock in locks]), True)
            self.assertEqual(desk.say("to " + words(start)), " ".join(["pulls"] + ["0"] * len(levers)))
        self.assertTrue(min(seen.values()) > 10, seen)


class RoadLines(Refused):
    def test_told_values(self):
        desk = desk_of("vault 12; 4 : 7; 8 : 3", "at 1")
        self.assertEqual(desk.say("road 5"), "3 -1")
        self.assertEqual(desk.say("road 9"), "3 +1")
        self.assertEqual(desk.say("road -11"), "0")
        self.assertEqual(desk.say("road 2").split(" ")[0], "weights")
        self.assertEqual(desk.say("dearest"), "3 5")
        self.assertEqual(desk.say("pull 0 0"), "1")
        desk = desk_of("vault 5; 1")
        self.assertEqual([desk.say(f"road {notch}") for notch in range(5)], ["0", "1 +0", "2 +0 +0", "2 -0 -0", "1 -0"])
        self.assertEqual(desk.say("dearest"), "2 2")

    def test_small_vaults_gone_through(self):
        chance = random.Random(95)
        for sizes, levers in SMALL + more_small(95, 20, 60):
            prices = [chance.choice((1, 1, 7, 1000)) for _ in levers]
            start = chance.choice(settings(sizes))
            desk = desk_of("vault " + vault_text(sizes, levers, prices), "at " + words(start))
            near = {plus(sizes, start, doing) for doing in doings(sizes, levers)}
            costs = {}
            for goal in settings(sizes)[:80]:
                answer = desk.say("road " + words(goal))
                if goal not in near:
                    weights = numbers_behind("weights", answer)
                    self.assertIn(weights, still_weights(sizes, levers))
                    self.assertNotEqual(weight_of(sizes, weights, plus(sizes, goal, start, -1)), 0)
                    continue
                steps = answer.split(" ")[1:]
                at = start
                for step in steps:
                    at = plus(sizes, at, levers[int(step[1:])], {"+": 1, "-": -1}[step[0]])
                self.assertEqual(at, goal)
                costs[goal] = int(answer.split(" ")[0])
                self.assertEqual(costs[goal], sum(prices[int(step[1:])] for step in steps))
            if len(settings(sizes)) <= 80:
                most = max(costs.values())
                right = min(setting for setting in costs if costs[setting] == most)
                self.assertEqual(desk.say("dearest"), f"{most} {words(right)}")
            self.assertEqual(desk.say("to " + words(start)), " ".join(["pulls"] + ["0"] * len(levers)))

    def test_too_many(self):
        desk = desk_of("vault 25 41; 1 0; 0 1")
        self.refused(TooMany, desk.say, "dearest")
        self.refused(TooMany, desk.say, "road 1 1")
        self.refused(TooMany, desk.say, "road 0 0")
        self.refused(NoSetting, desk.say, "road 1")
        self.refused(NoText, desk.say, "road x")
        self.assertEqual(desk_of("vault 32 32; 1 0; 0 1").say("road 1 -1").split(" ")[0], "2")
        desk = desk_of("vault 60 60; 2 0; 0 1")
        self.assertEqual(desk.say("road 1 1").split(" ")[0], "weights")
        self.refused(TooMany, desk.say, "road 2 1")


class Unchanged(Refused):
    def test_what_is_refused_changes_nothing(self):
        ahead = ["vault " + CLOCK, "at 5 31 2", "lock 1 0 0 : 12 7", "lock 0 0 1 : 7 3"]
        right = answers(desk_of(*ahead), PROBES)
        for line, kind in (
            ("vault ", NoDial), ("vault 12; x", NoText), ("vault 12; 1 1", NoLever), ("vault 12; 1 : 0", NoPrice),
            ("vault", NoLine), ("at 1 1", NoSetting), ("at 1 1 x", NoText), ("at", NoLine), ("pull 2 1", NoLever),
            ("pull 0", NoText), ("to 1", NoSetting), ("to x", NoText), ("with 12", Unlike), ("both 12", Unlike),
            ("with x", NoText), ("both 1", NoDial), ("alike 1", NoDial), ("lock 0 0 1 : 8 1", NoLock),
            ("lock 0 0 1 : 8", NoText), ("free ", NoLine), ("open 1", NoLine), ("road 1", NoSetting), ("road x", NoText),
            ("dearest 1", NoLine), ("", NoLine), (None, NoLine), (7, NoLine), (["free"], NoLine),
        ):
            desk = desk_of(*ahead)
            self.refused(kind, desk.say, line)
            self.assertEqual(answers(desk, PROBES), right)

    def test_what_only_tells_changes_nothing(self):
        ahead = ["vault " + CLOCK, "at 5 31 2", "lock 1 0 0 : 12 7", "lock 0 30 0 : 60 1"]
        right = answers(desk_of(*ahead), PROBES)
        for line in (
            "least", "count", "idle", "few", "clear", "stills", "build", "with 12 60 7; 1 1 1", "both 12 60 7; 1 1 1",
            "alike 12", "alike 30", "open", "road 5 31 3", "road 0 0 0", "dearest", "to 5 32 2", "to 5 31 2", "pull 1 0",
        ):
            desk = desk_of(*ahead)
            desk.say(line)
            self.assertEqual(answers(desk, PROBES), right)

    def test_two_desks_keep_to_themselves(self):
        one = desk_of("vault " + CLOCK)
        other = desk_of("vault " + CLOCK)
        one.say("at 1 1 1")
        one.say("lock 0 0 1 : 7 5")
        self.assertEqual(other.say("pull 0 0"), "0 0 0")
        self.assertEqual(other.say("lock 0 0 1 : 7 5"), "locks 1")
        self.refused(NoLine, Desk().say, "least")

    def test_told_the_same_lines_it_answers_the_same(self):
        chance = random.Random(96)
        lines = ["vault " + CLOCK]
        for _ in range(200):
            lines.append(chance.choice(PROBES + ["at 1 2 3", "lock 1 0 0 : 12 7", "lock 0 1 0 : 60 1", "road 1 2 3", "x", "at 1"]))
        self.assertEqual(answers(Desk(), lines), answers(Desk(), lines))
        for answer in answers(Desk(), lines):
            self.assertTrue(isinstance(answer, (str, type)))


if __name__ == "__main__":
    unittest.main()
