"""[60] what two vaults do together and what both can do, [61] how each makes it, [62] the vault of what was seen."""

import itertools
import random
import unittest

from dialvault.classes import all_together, together_count
from dialvault.errors import NoDial, NoSetting, TooMany, Unlike
from dialvault.pairs import both, both_ways, seen_vault, together
from dialvault.rungs import Rungs
from dialvault.stills import clear
from dialvault.vault import Vault
from plain import (
    BIG, SIZES, SMALL, THINGS, Refused, clear_told, doings, drawn_levers, more_small, normal_forms, plus, reached,
    settings, told,
)


# Sizes, and the levers of the one vault and of the other one.
def small_pairs():
    chance = random.Random(60)
    found = [
        ((12,), ((8,),), ((6,),)), ((12,), (), ((6,),)), ((12,), (), ()), ((4, 6), ((1, 1),), ((2, 3), (0, 3))),
        ((2, 2), ((1, 0),), ((1, 1),)), ((6, 6), ((1, 0), (0, 1)), ((2, 3),)), ((4, 4, 4), ((1, 2, 3),), ((2, 0, 2),)),
    ]
    for sizes, levers in SMALL + more_small(60, 40, 120):
        stride = chance.choice((1, 2, 2, 3, 4))
        found.append((sizes, levers, drawn_levers(chance, sizes, chance.randint(0, 3), stride)))
    return found


def large_pairs():
    chance = random.Random(61)
    units = tuple(tuple(int(k == j) for k in range(6)) for j in range(6))
    found = [
        (SIZES, (), ()), (SIZES, units, ()), (SIZES, units, units), (SIZES, ((1,) * 6,) * 8, ((2,) * 6,) * 8),
        ((360,) * 6, tuple(plus((360,) * 6, (0,) * 6, unit, 8) for unit in units) + ((0,) * 6,) * 2,
         tuple(plus((360,) * 6, (0,) * 6, unit, 45) for unit in units) + ((0,) * 6,) * 2),
    ]
    for _ in range(30):
        sizes = tuple(chance.choice((360, 359, 240, 210, 128, 81, 36, 343, 2)) for _ in range(6))
        one = drawn_levers(chance, sizes, chance.randint(0, 8), chance.choice((1, 2, 6, 12)))
        other = drawn_levers(chance, sizes, chance.randint(0, 8), chance.choice((1, 3, 4, 10)))
        found.append((sizes, one, other))
    return found


class Together(unittest.TestCase):
    def test_told_values(self):
        one = Vault([12], [[8]], [7])
        other = Vault([12], [[6]], [9])
        self.assertEqual(told(together(one, other)), ((12,), ((2,),), (1,)))
        self.assertEqual(told(together(Vault([12], []), Vault([12], []))), ((12,), (), ()))
        self.assertEqual(told(together(Vault([4, 6], [[1, 1]]), Vault([4, 6], [[0, 3]]))),
                         ((4, 6), ((1, 0), (0, 1)), (1, 1)))

    def test_small_vaults_gone_through(self):
        for sizes, first, second in small_pairs():
            done = {plus(sizes, a, b) for a in doings(sizes, first) for b in doings(sizes, second)}
            one = Vault(sizes, first, [3] * len(first))
            other = Vault(sizes, second, [4] * len(second))
            self.assertEqual(told(together(one, other)), clear_told(sizes, done))
            self.assertEqual(told(together(other, one)), clear_told(sizes, done))

    def test_large_vaults(self):
        for sizes, first, second in large_pairs():
            one = Vault(sizes, first)
            other = Vault(sizes, second)
            joined = together(one, other)
            self.assertEqual(told(clear(joined)), told(joined))
            self.assertEqual(told(together(other, one)), told(joined))
            # Each lever of either is done; that nothing more is, the counts below tell.
            for lever in first + second:
                self.assertIsNotNone(Rungs(joined).pulls_to(lever))
            if len(first) + len(second) <= 8:
                self.assertEqual(told(clear(Vault(sizes, first + second))), told(joined))


class Both(unittest.TestCase):
    def test_told_values(self):
        one = Vault([12], [[8]], [7])
        other = Vault([12], [[6]], [9])
        self.assertEqual(told(both(one, other)), ((12,), (), ()))
        self.assertEqual(told(both(Vault([12], [[2]]), Vault([12], [[3]]))), ((12,), ((6,),), (1,)))
        self.assertEqual(told(both(Vault([4, 6], [[1, 1]]), Vault([4, 6], [[2, 0], [0, 3]]))),
                         ((4, 6), ((2, 0),), (1,)))

    def test_small_vaults_gone_through(self):
        for sizes, first, second in small_pairs():
            done = doings(sizes, first) & doings(sizes, second)
            one = Vault(sizes, first, [3] * len(first))
            other = Vault(sizes, second, [4] * len(second))
            self.assertEqual(told(both(one, other)), clear_told(sizes, done))
            self.assertEqual(told(both(other, one)), clear_told(sizes, done))

    def test_the_counts(self):
        for sizes, first, second in small_pairs() + large_pairs():
            one = Vault(sizes, first)
            other = Vault(sizes, second)
            left = together_count(one) * together_count(other)
            self.assertEqual(left, together_count(together(one, other)) * together_count(both(one, other)))

    def test_a_vault_with_itself_and_without_levers(self):
        for sizes, first, second in small_pairs() + large_pairs():
            vault = Vault(sizes, first)
            none = Vault(sizes, [])
            self.assertEqual(told(both(vault, vault)), told(clear(vault)))
            self.assertEqual(told(together(vault, vault)), told(clear(vault)))
            self.assertEqual(told(both(vault, none)), (sizes, (), ()))
            self.assertEqual(told(both(none, vault)), (sizes, (), ()))
            self.assertEqual(told(together(vault, none)), told(clear(vault)))
            self.assertEqual(told(together(none, vault)), told(clear(vault)))


class BothWays(unittest.TestCase):
    def check(self, sizes, first, second):
        one = Vault(sizes, first)
        other = Vault(sizes, second)
        ways = both_ways(one, other)
        self.assertIs(type(ways), list)
        self.assertTrue(all(type(way) is tuple and len(way) == 3 for way in ways))
        self.assertEqual(tuple(way[0] for way in ways), both(one, other).levers())
        for lever, left, right in ways:
            for levers, vault, pulls in ((first, one, left), (second, other, right)):
                self.assertIs(type(pulls), tuple)
                self.assertEqual(len(pulls), len(levers))
                self.assertEqual(reached(sizes, (0,) * len(sizes), levers, pulls), lever)
                self.assertTrue(all(0 <= times < span for times, span in zip(pulls, Rungs(vault).spans())))
                self.assertTrue(all(len(str(times)) <= 40 for times in pulls))
        return ways

    def test_told_values(self):
        self.assertEqual(both_ways(Vault([12], [[2]]), Vault([12], [[3], [0]])), [((6,), (3,), (2, 0))])
        self.assertEqual(both_ways(Vault([12], []), Vault([12], [[3]])), [])
        self.assertEqual(both_ways(Vault([2, 3], [[1, 1]]), Vault([2, 3], [[0, 1], [1, 0]])),
                         [((1, 0), (3,), (0, 1)), ((0, 1), (4,), (1, 0))])

    def test_small_vaults_gone_through(self):
        for sizes, first, second in small_pairs():
            left = normal_forms(sizes, first)
            right = normal_forms(sizes, second)
            for lever, some, others in self.check(sizes, first, second):
                self.assertEqual(([some], [others]), (left[lever], right[lever]))
            for lever, some, others in self.check(sizes, second, first):
                self.assertEqual(([some], [others]), (right[lever], left[lever]))

    def test_large_vaults(self):
        for sizes, first, second in large_pairs():
            self.check(sizes, first, second)

    def test_told_again_the_same_and_the_askers_own(self):
        one = Vault([4, 6], [[1, 1], [0, 3]], [1, 2])
        other = Vault([4, 6], [[2, 0], [1, 3]])
        first = both_ways(one, other)
        kept = list(first)
        first.append(None)
        first.reverse()
        self.assertEqual(both_ways(one, other), kept)
        self.assertEqual(both_ways(Vault((4, 6), ((-3, 7), (4, -3))), Vault((4, 6), ((6, 6), (5, 3)))), kept)
        self.assertEqual((one.levers(), other.levers()), (((1, 1), (0, 3)), ((2, 0), (1, 3))))


class UnlikeVaults(Refused):
    def test_other_sizes(self):
        for sizes in ([12], [12, 60], [60, 12, 7], [12, 60, 8], [12, 60, 7, 2], [12, 60, 7, 7], [2] * 6):
            for asks in (together, both, both_ways):
                one = Vault([12, 60, 7], [[1, 0, 0]])
                other = Vault(sizes, [[0] * len(sizes)])
                self.refused(Unlike, asks, one, other)
                self.refused(Unlike, asks, other, one)
                self.refused(Unlike, asks, Vault([12, 60, 7], []), Vault(sizes, []))


class SeenVault(Refused):
    def test_told_values(self):
        for sizes, seen, levers in (
            ([12], [(5,)], ()), ([12], [(5,), (5,)], ()), ([12], [(5,), (9,)], ((4,),)), ([12], [(9,), (5,)], ((4,),)),
            ([12], [(5,), (9,), (11,)], ((2,),)), ([4, 6], [(3, 5), (0, 0)], ((1, 1), (0, 2))),
            ([4, 6], ((3, 5), (1, 2), (3, 5)), ((2, 3),)),
        ):
            self.assertEqual(told(seen_vault(sizes, seen)), (tuple(sizes), levers, (1,) * len(levers)))

    def test_small_dials_gone_through(self):
        chance = random.Random(62)
        for sizes, levers in SMALL + more_small(62, 20, 150):
            for count in (1, 2, 3, 5, 40):
                seen = [chance.choice(settings(sizes)) for _ in range(count)]
                done = doings(sizes, [plus(sizes, setting, seen[0], -1) for setting in seen])
                right = clear_told(sizes, done)
                self.assertEqual(told(seen_vault(sizes, seen)), right)
                self.assertEqual(told(seen_vault(list(sizes), tuple(seen))), right)
                chance.shuffle(seen)
                self.assertEqual(told(seen_vault(sizes, seen + seen[:40 - count])), right)

    def test_all_settings_of_a_class(self):
        for sizes, levers in SMALL:
            vault = Vault(sizes, levers)
            seen = all_together(vault, settings(sizes)[-1])
            if len(seen) <= 40:
                self.assertEqual(told(seen_vault(sizes, seen)), told(clear(vault)))

    def test_large_dials_by_sums(self):
        chance = random.Random(63)
        for stride in (1, 2, 6, 60):
            for count in (1, 2, 6, 7, 8, 40):
                base = drawn_levers(chance, SIZES, chance.randint(1, 8), stride)
                start = tuple(chance.randrange(size) for size in SIZES)
                seen = [reached(SIZES, start, base, [chance.randrange(99) for _ in base]) for _ in range(count)]
                vault = seen_vault(SIZES, seen)
                self.assertEqual(told(clear(vault)), told(vault))
                for one, other in itertools.product(seen[:3], seen):
                    self.assertIsNotNone(Rungs(vault).pulls_to(plus(SIZES, other, one, -1)))
                # They belong together by the base too: so all that is told is done by it.
                for lever in vault.levers():
                    self.assertIsNotNone(Rungs(Vault(SIZES, base)).pulls_to(lever))
                if count <= 8:
                    differences = [plus(SIZES, setting, seen[0], -1) for setting in seen]
                    self.assertEqual(told(clear(Vault(SIZES, differences))), told(vault))

    def test_forty_and_one_more(self):
        seen = [(k,) for k in range(0, 80, 2)]
        self.assertEqual(told(seen_vault([360], seen)), ((360,), ((2,),), (1,)))
        self.refused(TooMany, seen_vault, [360], seen + [(80,)])
        self.refused(TooMany, seen_vault, [360], [(0,)] * 41)
        self.assertEqual(seen_vault([360], [(0,)] * 40).levers(), ())

    def test_nothing_seen(self):
        self.refused(NoSetting, seen_vault, [12], [])
        self.refused(NoSetting, seen_vault, (12, 5), ())

    def test_what_is_no_setting(self):
        beyond = [(12, 0, 0), (0, 60, 0), (0, 0, 7), (-1, 0, 0), (0, 0, BIG), (0, True, 0), (0, 0, None), (0, 0)]
        for thing in THINGS + beyond:
            for seen in ([thing], [thing, (0, 0, 0)], [(0, 0, 0), thing, (1, 1, 1)], [(0, 0, 0)] * 39 + [thing]):
                self.refused(NoSetting, seen_vault, [12, 60, 7], seen)

    def test_the_sizes_go_first(self):
        for seen in ([], [(0,)], [None] * 41):
            self.refused(TooMany, seen_vault, [2] * 7, seen)
            self.assertEqual(self.refused(NoDial, seen_vault, [], seen).dial, 0)
            for sizes, dial in (([1], 0), ([12, 361], 1), ([12, True, 0], 1), ([2, 2, "2"], 2), ((2, None), 1)):
                self.assertEqual(self.refused(NoDial, seen_vault, sizes, seen).dial, dial)
        self.refused(TooMany, seen_vault, [12], [None] * 41)
        self.refused(TooMany, seen_vault, [12], [(0,)] * 40 + [(12,)])
        self.refused(NoSetting, seen_vault, [12], [None] * 40)

    def test_nothing_handed_in_is_changed(self):
        sizes = [4, 6]
        seen = [(3, 5), (0, 0)]
        vault = seen_vault(sizes, seen)
        self.assertEqual((sizes, seen), ([4, 6], [(3, 5), (0, 0)]))
        sizes[0] = 9
        seen.clear()
        self.assertEqual(told(vault), ((4, 6), ((1, 1), (0, 2)), (1, 1)))


if __name__ == "__main__":
    unittest.main()
