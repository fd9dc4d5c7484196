"""[32] to [35] on small vaults: each of their settings gone through, against the definitions."""

import itertools
import math
import unittest

from dialvault.errors import NoDial, NoSetting
from dialvault.rungs import Rungs
from dialvault.vault import Vault
from plain import (
    BIG, SMALL, THINGS, Odd, Refused, doings, more_small, normal_forms, plus, reached, settings, spans, step_rows,
    step_sizes, stills, weight_of,
)

VAULTS = SMALL + more_small(32, 60, 150)


def zeros(row):
    return (0,) * len(row)


class Steps(unittest.TestCase):
    def test_told_values(self):
        for sizes, levers, steps, rows in (
            ((12,), (), (12,), [(0,)]),
            ((12,), ((0,),), (12,), [(0,)]),
            ((12,), ((8,),), (4,), [(4,)]),
            ((12,), ((11,),), (1,), [(1,)]),
            ((12,), ((8,), (6,)), (2,), [(2,)]),
            ((4, 6), ((2, 3),), (2, 6), [(2, 3), (0, 0)]),
            ((4, 6), ((1, 1),), (1, 2), [(1, 1), (0, 2)]),
            ((4, 6), ((1, 5),), (1, 2), [(1, 1), (0, 2)]),
            ((12, 60, 7), ((1, 0, 0), (3, 30, 1)), (1, 30, 1), [(1, 0, 0), (0, 30, 0), (0, 0, 1)]),
        ):
            rungs = Rungs(Vault(sizes, levers))
            self.assertEqual(rungs.steps(), steps)
            self.assertEqual(rungs.rows(), rows)

    def test_step_sizes_and_steps(self):
        for sizes, levers in VAULTS:
            with self.subTest(sizes=sizes, levers=levers):
                rungs = Rungs(Vault(sizes, levers))
                self.assertEqual(rungs.steps(), step_sizes(sizes, levers))
                self.assertIs(type(rungs.steps()), tuple)
                self.assertEqual(rungs.rows(), step_rows(sizes, levers))
                self.assertIs(type(rungs.rows()), list)
                self.assertEqual([type(row) for row in rungs.rows()], [tuple] * len(sizes))

    def test_what_follows_of_them(self):
        for sizes, levers in VAULTS:
            rungs = Rungs(Vault(sizes, levers))
            self.assertTrue(all(size % step == 0 for size, step in zip(sizes, rungs.steps())))
            for dial, row in enumerate(rungs.rows()):
                self.assertTrue(all(row[k] < rungs.steps()[k] for k in range(dial + 1, len(sizes))))
            together = math.prod(size // step for size, step in zip(sizes, rungs.steps()))
            self.assertEqual(together, len(doings(sizes, levers)))
            self.assertEqual(math.prod(rungs.steps()) * together, math.prod(sizes))


class Spans(unittest.TestCase):
    def test_told_values(self):
        for sizes, levers, told, idle in (
            ((12,), (), (), []),
            ((12,), ((0,),), (1,), [(1,)]),
            ((12,), ((8,),), (3,), [(3,)]),
            ((12,), ((8,), (8,)), (3, 1), [(3, 0), (2, 1)]),
            ((12,), ((8,), (6,)), (3, 2), [(3, 0), (0, 2)]),
            ((12,), ((4,), (1,)), (3, 4), [(3, 0), (2, 4)]),
            ((12,), ((1,), (4,)), (12, 1), [(12, 0), (8, 1)]),
            ((4, 6), ((2, 3), (2, 0)), (2, 2), [(2, 0), (0, 2)]),
            ((12, 60, 7), ((1, 0, 0), (3, 30, 1)), (12, 14), [(12, 0), (6, 14)]),
        ):
            rungs = Rungs(Vault(sizes, levers))
            self.assertEqual(rungs.spans(), told)
            self.assertEqual(rungs.idle(), idle)

    def test_spans(self):
        for sizes, levers in VAULTS:
            with self.subTest(sizes=sizes, levers=levers):
                rungs = Rungs(Vault(sizes, levers))
                self.assertEqual(rungs.spans(), spans(sizes, levers))
                self.assertIs(type(rungs.spans()), tuple)
                self.assertEqual(math.prod(rungs.spans()), len(doings(sizes, levers)))

    # The idle row of a lever is looked for among all pulls that are of its form.
    def test_idle_rows(self):
        for sizes, levers in VAULTS:
            rungs = Rungs(Vault(sizes, levers))
            told = rungs.idle()
            self.assertIs(type(told), list)
            self.assertEqual(len(told), len(levers))
            wide = spans(sizes, levers)
            for lever, row in enumerate(told):
                self.assertIs(type(row), tuple)
                behind = (0,) * (len(levers) - lever - 1)
                ahead = itertools.product(*[range(span) for span in wide[:lever]])
                forms = [pulls + (wide[lever],) + behind for pulls in ahead]
                right = [pulls for pulls in forms if not any(reached(sizes, zeros(sizes), levers, pulls))]
                self.assertEqual(right, [row], (sizes, levers, lever))

    def test_idle_pulls_are_sums_of_idle_rows(self):
        for sizes, levers in SMALL:
            if len(levers) > 3:
                continue
            rows = Rungs(Vault(sizes, levers)).idle()
            for pulls in itertools.product(range(-4, 9), repeat=len(levers)):
                if any(reached(sizes, zeros(sizes), levers, pulls)):
                    continue
                left = list(pulls)
                for lever in range(len(levers) - 1, -1, -1):
                    self.assertEqual(left[lever] % rows[lever][lever], 0)
                    times = left[lever] // rows[lever][lever]
                    left = [number - times * entry for number, entry in zip(left, rows[lever])]
                self.assertEqual(left, [0] * len(levers))


class Weights(Refused):
    def test_told_values(self):
        for sizes, levers, told in (
            ((12,), (), [(1,)]),
            ((12,), ((8,),), [(3,)]),
            ((12,), ((1,),), [(0,)]),
            ((4, 6), (), [(1, 0), (0, 1)]),
            ((4, 6), ((2, 3),), [(2, 0), (1, 1)]),
            ((4, 6), ((1, 1),), [(0, 0), (2, 3)]),
            ((12, 60, 7), ((1, 0, 0), (3, 30, 1)), [(0, 0, 0), (0, 2, 0), (0, 0, 0)]),
        ):
            rungs = Rungs(Vault(sizes, levers))
            self.assertEqual([rungs.weights_at(dial) for dial in range(len(sizes))], told)

    # The step weights of a dial are looked for among all weights that are of their form.
    def test_step_weights(self):
        for sizes, levers in VAULTS:
            rungs = Rungs(Vault(sizes, levers))
            steps = step_sizes(sizes, levers)
            for dial, size in enumerate(sizes):
                ahead = itertools.product(*[range(sizes[k] // steps[k]) for k in range(dial)])
                at = size // steps[dial] if steps[dial] > 1 else 0
                forms = [weights + (at,) + (0,) * (len(sizes) - dial - 1) for weights in ahead]
                right = [w for w in forms if all(weight_of(sizes, w, lever) == 0 for lever in levers)]
                told = rungs.weights_at(dial)
                self.assertEqual(right, [told], (sizes, levers, dial))
                self.assertIs(type(told), tuple)
                if steps[dial] == 1:
                    self.assertEqual(told, zeros(sizes))

    def test_they_weigh_what_is_no_doing(self):
        for sizes, levers in VAULTS:
            rungs = Rungs(Vault(sizes, levers))
            weights = [rungs.weights_at(dial) for dial in range(len(sizes))]
            for setting in settings(sizes):
                least = rungs.least(setting)
                if any(least):
                    first = [notch != 0 for notch in least].index(True)
                    self.assertNotEqual(weight_of(sizes, weights[first], setting), 0)

    def test_still_weights_are_sums_of_them_in_just_one_way(self):
        for sizes, levers in VAULTS:
            rungs = Rungs(Vault(sizes, levers))
            sums = []
            for times in itertools.product(*[range(step) for step in rungs.steps()]):
                total = zeros(sizes)
                for dial, count in enumerate(times):
                    total = plus(sizes, total, rungs.weights_at(dial), count)
                sums.append(total)
            self.assertEqual(sorted(sums), stills(sizes, levers))

    def test_no_dial_has_what_was_handed_in(self):
        rungs = Rungs(Vault([12, 60, 7], [[1, 0, 0], [3, 30, 1]]))
        for thing in (3, 4, -1, -3, BIG, -BIG, True, False, None, "", "0", (), (0,), [], [0], {}, {0: 0}):
            with self.subTest(thing=thing):
                field = self.refused(NoDial, rungs.weights_at, thing).dial
                self.assertEqual(field, thing)
                self.assertIs(type(field), type(thing))
        self.refused(NoDial, rungs.weights_at, Odd())
        for count in range(1, 7):
            many = Rungs(Vault([2] * count, []))
            self.assertEqual(self.refused(NoDial, many.weights_at, count).dial, count)
            self.assertEqual(many.weights_at(count - 1), (0,) * (count - 1) + (1,))


class Least(Refused):
    def test_least_of_the_class(self):
        for sizes, levers in VAULTS:
            rungs = Rungs(Vault(sizes, levers))
            done = doings(sizes, levers)
            for setting in settings(sizes):
                told = rungs.least(setting)
                self.assertEqual(told, min(plus(sizes, setting, doing) for doing in done))
                self.assertIs(type(told), tuple)
                self.assertTrue(all(notch < step for notch, step in zip(told, rungs.steps())))

    def test_no_setting(self):
        rungs = Rungs(Vault([12, 60, 7], [[1, 0, 0], [3, 30, 1]]))
        for thing in THINGS + [(12, 0, 0), (0, -1, 0), (0, 0, 7), (0, True, 0)]:
            self.refused(NoSetting, rungs.least, thing)


class PullsTo(Refused):
    def test_pulls_in_normal_form(self):
        for sizes, levers in VAULTS:
            rungs = Rungs(Vault(sizes, levers))
            forms = normal_forms(sizes, levers)
            for setting in settings(sizes):
                told = rungs.pulls_to(setting)
                if setting in forms:
                    self.assertEqual([told], forms[setting], (sizes, levers, setting))
                    self.assertIs(type(told), tuple)
                else:
                    self.assertIsNone(told, (sizes, levers, setting))

    def test_without_levers(self):
        rungs = Rungs(Vault([4, 6], []))
        self.assertEqual(rungs.pulls_to((0, 0)), ())
        self.assertIsNone(rungs.pulls_to((0, 1)))
        self.assertIsNone(rungs.pulls_to((3, 0)))

    def test_no_setting(self):
        rungs = Rungs(Vault([12, 60, 7], [[1, 0, 0], [3, 30, 1]]))
        for thing in THINGS + [(12, 0, 0), (0, -1, 0), (0, 0, 7), (0, True, 0)]:
            self.refused(NoSetting, rungs.pulls_to, thing)


class Unchanged(Refused):
    def told(self, rungs):
        return (
            rungs.steps(), rungs.rows(), rungs.spans(), rungs.idle(), rungs.least((3, 50, 2)), rungs.pulls_to((3, 30, 5)),
            [rungs.weights_at(dial) for dial in range(3)],
        )

    def test_lists_that_were_told_are_the_askers_own(self):
        rungs = Rungs(Vault([12, 60, 7], [[2, 3, 0], [3, 30, 1]]))
        before = self.told(rungs)
        rows = rungs.rows()
        rows[0] = (9, 9, 9)
        rows.append(None)
        rungs.rows().clear()
        idle = rungs.idle()
        idle[1] = (5, 5)
        idle.pop(0)
        rungs.idle().clear()
        self.assertEqual(self.told(rungs), before)
        self.assertIsNot(rungs.rows(), rungs.rows())
        self.assertIsNot(rungs.idle(), rungs.idle())

    def test_lists_that_were_handed_in_are_changed_behind(self):
        sizes = [12, 60, 7]
        levers = [[2, 3, 0], [3, 30, 1]]
        vault = Vault(sizes, levers)
        rungs = Rungs(vault)
        before = self.told(rungs)
        sizes[0] = 5
        levers[0][0] = 1
        levers.pop()
        self.assertEqual(self.told(rungs), before)
        self.assertEqual(self.told(Rungs(vault)), before)
        self.assertEqual((vault.sizes(), vault.levers()), ((12, 60, 7), ((2, 3, 0), (3, 30, 1))))

    def test_what_is_refused_changes_nothing(self):
        rungs = Rungs(Vault([12, 60, 7], [[2, 3, 0], [3, 30, 1]]))
        before = self.told(rungs)
        self.refused(NoSetting, rungs.least, [3, 50, 2])
        self.refused(NoSetting, rungs.pulls_to, None)
        self.refused(NoDial, rungs.weights_at, 3)
        self.assertEqual(self.told(rungs), before)

    def test_of_another_object_made_alike(self):
        one = Rungs(Vault([12, 60, 7], [[2, 3, 0], [3, 30, 1]], [5, 6]))
        other = Rungs(Vault((12, 60, 7), ((14, -57, 7), (-9, 90, 8))))
        self.assertEqual(self.told(one), self.told(other))


if __name__ == "__main__":
    unittest.main()
