"""[7] the promise over the whole program, on drawn vaults of either size; all papers are checked here by sums."""

import math
import random
import unittest

from dialvault.build import Build, alike, ended
from dialvault.classes import class_count, least_of, normal, together_count
from dialvault.desk import Desk, answers_to
from dialvault.locks import Lock, open_from
from dialvault.pairs import both, together
from dialvault.roads import Roads, cheapest
from dialvault.rungs import bring
from dialvault.stills import all_stills, clear, stills
from dialvault.texts import read_vault, show_vault
from dialvault.vault import Vault
from plain import BIG, doings, drawn_levers, plus, reached, told, weight_of


# Each is sizes, levers, other levers and prices.
def drawn_vaults():
    chance = random.Random(7)
    found = []
    while len(found) < 60:
        large = len(found) % 2 == 1
        choices = (360, 359, 240, 210, 128, 81, 36, 343, 2) if large else (2, 3, 4, 5, 6, 8, 9, 12)
        sizes = tuple(chance.choice(choices) for _ in range(6 if large else chance.randint(1, 4)))
        if not large and math.prod(sizes) > 400:
            continue
        levers = drawn_levers(chance, sizes, chance.randint(0, 8), chance.choice((1, 2, 3, 6)))
        others = drawn_levers(chance, sizes, chance.randint(0, 8), chance.choice((1, 2, 3, 6)))
        found.append((sizes, levers, others, [chance.randint(1, 1000) for _ in levers]))
    return found


VAULTS = drawn_vaults()


def drawn_setting(chance, sizes):
    return tuple(chance.randrange(size) for size in sizes)


class Papers(unittest.TestCase):
    def check(self, sizes, levers, one, other, words):
        if words[0] == "pulls":
            self.assertEqual(reached(sizes, one, levers, words[1]), other)
        else:
            self.assertEqual(words[0], "weights")
            self.assertTrue(all(weight_of(sizes, words[1], lever) == 0 for lever in levers))
            self.assertNotEqual(weight_of(sizes, words[1], plus(sizes, other, one, -1)), 0)
        return words[0]

    def test_every_two_settings_have_just_one_paper(self):
        chance = random.Random(701)
        seen = {"pulls": 0, "weights": 0}
        for sizes, levers, others, prices in VAULTS:
            vault = Vault(sizes, levers, prices)
            for _ in range(10):
                one = drawn_setting(chance, sizes)
                other = drawn_setting(chance, sizes)
                if chance.random() < 0.5:
                    other = reached(sizes, one, levers, [chance.randint(-BIG, BIG) for _ in levers])
                word = self.check(sizes, levers, one, other, bring(vault, one, other).words())
                seen[word] += 1
                self.assertEqual(least_of(vault, one) == least_of(vault, other), word == "pulls")
                self.assertEqual(Build(vault).forth(one) == Build(vault).forth(other), word == "pulls")
                line = answers_to(f"vault {show_vault(vault)}\nat {' '.join(map(str, one))}\nto {' '.join(map(str, other))}")
                numbers = tuple(int(number) for number in line[2][1].split(" ")[1:])
                self.assertEqual(self.check(sizes, levers, one, other, (line[2][1].split(" ")[0], numbers)), word)
        self.assertTrue(min(seen.values()) > 100, seen)


class Counts(unittest.TestCase):
    def test_settings_classes_and_still_weights(self):
        for sizes, levers, others, prices in VAULTS:
            vault = Vault(sizes, levers, prices)
            still = stills(vault)
            self.assertEqual(together_count(vault) * class_count(vault), math.prod(sizes))
            self.assertEqual(together_count(still), class_count(vault))
            self.assertEqual(told(stills(still)), told(clear(vault)))
            self.assertEqual(math.prod(Build(vault).numbers()), class_count(vault))
            self.assertEqual(ended(vault, 0), class_count(vault))
            self.assertEqual(ended(vault, vault.around()), class_count(vault))
            if math.prod(sizes) <= 400:
                self.assertEqual(len(all_stills(vault)), class_count(vault))
                self.assertEqual(set(all_stills(still)), doings(sizes, levers))

    def test_one_normal_form(self):
        chance = random.Random(702)
        for sizes, levers, others, prices in VAULTS:
            vault = Vault(sizes, levers, prices)
            pulls = tuple(chance.randint(-BIG, BIG) for _ in levers)
            form = normal(vault, pulls)
            self.assertEqual(reached(sizes, (0,) * len(sizes), levers, form), reached(sizes, (0,) * len(sizes), levers, pulls))
            self.assertEqual(normal(vault, form), form)

    def test_two_vaults(self):
        for sizes, levers, others, prices in VAULTS:
            one = Vault(sizes, levers, prices)
            other = Vault(sizes, others)
            left = together_count(one) * together_count(other)
            self.assertEqual(together_count(both(one, other)) * together_count(together(one, other)), left)


class Opened(unittest.TestCase):
    def check(self, sizes, levers, start, locks, paper):
        if paper.brings():
            setting = reached(sizes, start, levers, paper.pulls)
            for factors, number, rest in locks:
                self.assertEqual((sum(f * n for f, n in zip(factors, setting)) - rest) % number, 0)
            return True
        most = math.lcm(*[number for factors, number, rest in locks])
        worths = [share * (most // number) for share, (factors, number, rest) in zip(paper.shares, locks)]
        for lever in levers:
            turns = [sum(f * n for f, n in zip(factors, lever)) for factors, number, rest in locks]
            self.assertEqual(sum(worth * turn for worth, turn in zip(worths, turns)) % most, 0)
        wants = [rest - sum(f * n for f, n in zip(factors, start)) for factors, number, rest in locks]
        self.assertNotEqual(sum(worth * want for worth, want in zip(worths, wants)) % most, 0)
        return False

    def test_pulls_or_shares(self):
        chance = random.Random(703)
        seen = [0, 0]
        for sizes, levers, others, prices in VAULTS:
            for count in (1, 2, 4, 6):
                start = drawn_setting(chance, sizes)
                locks = []
                for _ in range(count):
                    number = chance.choice((2, 3, 4, 12, 60, 360))
                    factors = [number // math.gcd(number, size) * chance.randint(-5, 5) for size in sizes]
                    locks.append((factors, number, chance.choice((0, 0, 1, 12, -BIG * 12))))
                paper = open_from(Vault(sizes, levers, prices), start, [Lock(*lock) for lock in locks])
                seen[self.check(sizes, levers, start, locks, paper)] += 1
        self.assertTrue(min(seen) > 20, seen)


class Built(unittest.TestCase):
    def test_alike_or_a_number_of_turns(self):
        chance = random.Random(704)
        seen = {"alike": 0, "unlike": 0}
        for sizes, levers, others, prices in VAULTS:
            one = Vault(sizes, levers, prices)
            order = list(range(len(sizes)))
            chance.shuffle(order)
            for kept in (levers, levers[1:], others):
                other = Vault([sizes[k] for k in order], [[lever[k] for k in order] for lever in kept])
                answer = alike(one, other)
                seen[answer[0]] += 1
                numbers = [[n for n in Build(vault).numbers() if n > 1] for vault in (one, other)]
                self.assertEqual(numbers[0] == numbers[1], answer[0] == "alike")
                if answer[0] == "unlike":
                    self.assertEqual(answer[2:], (ended(one, answer[1]), ended(other, answer[1])))
                    self.assertNotEqual(answer[2], answer[3])
                    self.assertTrue(answer[1] <= 360)
        self.assertTrue(min(seen.values()) > 30, seen)


class Cheapest(unittest.TestCase):
    def test_prices_that_show_that_none_is_cheaper(self):
        chance = random.Random(705)
        for sizes, levers, others, prices in VAULTS:
            vault = Vault(sizes, levers, prices)
            if together_count(vault) > 1024:
                continue
            start = drawn_setting(chance, sizes)
            table = Roads(vault, start).table()
            self.assertEqual(len(table), together_count(vault))
            self.assertEqual(table[start], 0)
            for setting, price in table.items():
                for lever, cost in zip(levers, prices):
                    self.assertLessEqual(abs(table[plus(sizes, setting, lever)] - price), cost)
            goal = chance.choice(list(table))
            price, road = cheapest(vault, start, goal)
            self.assertEqual(price, table[goal])
            self.assertEqual(sum(prices[lever] for lever, way in road), price)
            pulls = [sum(way for place, way in road if place == lever) for lever in range(len(levers))]
            self.assertEqual(reached(sizes, start, levers, pulls), goal)


class Texts(unittest.TestCase):
    def test_what_is_shown_is_read(self):
        for sizes, levers, others, prices in VAULTS:
            vault = Vault(sizes, levers, prices)
            self.assertEqual(told(read_vault(show_vault(vault))), told(vault))
            desk = Desk()
            desk.say("vault " + show_vault(vault))
            self.assertEqual(desk.say("clear"), show_vault(clear(vault)))
            self.assertEqual(desk.say("stills"), show_vault(stills(vault)))
            self.assertEqual(desk.say("build"), " ".join(str(number) for number in Build(vault).numbers()))


if __name__ == "__main__":
    unittest.main()
