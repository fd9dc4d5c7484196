"""[32] to [35] and [5] on vaults of six dials of up to 360 notches and eight levers, checked by sums.

Still weights with 0 behind a dial show that no doing has a lesser step there; idle rows show that
no span is greater than told, and that the spans, multiplied, are as many as the doings shows that none is less."""

import math
import random
import unittest

from dialvault.rungs import Rungs
from dialvault.vault import Vault, turned
from plain import SIZES, large_vaults, plus, reached, weight_of


class Large(unittest.TestCase):
    def check(self, sizes, levers):
        rungs = Rungs(Vault(sizes, levers))
        self.check_steps(sizes, levers, rungs)
        self.check_spans(sizes, levers, rungs)
        self.check_weights(sizes, levers, rungs)
        self.check_settings(sizes, levers, rungs)

    def check_normal(self, sizes, levers, rungs, setting):
        pulls = rungs.pulls_to(setting)
        self.assertEqual(reached(sizes, (0,) * 6, levers, pulls), setting)
        self.assertTrue(all(0 <= times < span for times, span in zip(pulls, rungs.spans())))
        self.assertTrue(all(len(str(times)) <= 40 for times in pulls))

    def check_steps(self, sizes, levers, rungs):
        steps = rungs.steps()
        self.assertTrue(all(step >= 1 and size % step == 0 for size, step in zip(sizes, steps)))
        for dial, row in enumerate(rungs.rows()):
            self.assertFalse(any(row[:dial]))
            self.assertEqual(row[dial], steps[dial] % sizes[dial])
            self.assertTrue(all(0 <= row[k] < steps[k] for k in range(dial + 1, 6)))
            if steps[dial] == sizes[dial]:
                self.assertFalse(any(row))
            self.check_normal(sizes, levers, rungs, row)
        for lever in levers:
            self.assertEqual(rungs.least(lever), (0,) * 6)
            self.check_normal(sizes, levers, rungs, lever)

    def check_spans(self, sizes, levers, rungs):
        spans = rungs.spans()
        together = math.prod(size // step for size, step in zip(sizes, rungs.steps()))
        self.assertEqual(math.prod(spans), together)
        self.assertEqual(len(rungs.idle()), len(levers))
        for lever, row in enumerate(rungs.idle()):
            self.assertEqual(reached(sizes, (0,) * 6, levers, row), (0,) * 6)
            self.assertTrue(spans[lever] >= 1 and row[lever] == spans[lever])
            self.assertFalse(any(row[lever + 1:]))
            self.assertTrue(all(0 <= row[k] < spans[k] for k in range(lever)))
            self.assertTrue(all(len(str(times)) <= 40 for times in row))

    def check_weights(self, sizes, levers, rungs):
        steps = rungs.steps()
        for dial in range(6):
            weights = rungs.weights_at(dial)
            self.assertEqual(len(weights), 6)
            self.assertTrue(all(weight_of(sizes, weights, lever) == 0 for lever in levers))
            self.assertFalse(any(weights[dial + 1:]))
            self.assertEqual(weights[dial], sizes[dial] // steps[dial] % sizes[dial])
            self.assertTrue(all(0 <= weights[k] < sizes[k] // steps[k] for k in range(dial)))
            if steps[dial] == 1:
                self.assertFalse(any(weights))

    def check_settings(self, sizes, levers, rungs):
        chance = random.Random(7)
        for _ in range(6):
            setting = tuple(chance.randrange(size) for size in sizes)
            pulls = tuple(chance.randrange(-10 ** 30 + 1, 10 ** 30) for lever in levers)
            least = rungs.least(setting)
            self.assertTrue(all(0 <= notch < step for notch, step in zip(least, rungs.steps())))
            self.check_normal(sizes, levers, rungs, plus(sizes, setting, least, -1))
            self.check_normal(sizes, levers, rungs, reached(sizes, (0,) * 6, levers, pulls))
            self.assertEqual(rungs.least(reached(sizes, setting, levers, pulls)), least)
            if any(least):
                self.assertIsNone(rungs.pulls_to(setting))
                first = [notch != 0 for notch in least].index(True)
                self.assertNotEqual(weight_of(sizes, rungs.weights_at(first), setting), 0)

    def test_by_sums(self):
        for sizes, levers in large_vaults():
            with self.subTest(sizes=sizes, levers=levers):
                self.check(sizes, levers)

    def test_told_values(self):
        rungs = Rungs(Vault((360,) * 6, [tuple(180 if k == j else 0 for k in range(6)) for j in range(6)]))
        self.assertEqual(rungs.steps(), (180,) * 6)
        self.assertEqual(rungs.spans(), (2,) * 6)
        primes = (347, 349, 353, 359, 337, 331)
        rungs = Rungs(Vault(primes, [(1,) * 6]))
        self.assertEqual(rungs.steps(), (1,) * 6)
        self.assertEqual(rungs.spans(), (math.prod(primes),))
        self.assertEqual(rungs.idle(), [(math.prod(primes),)])
        self.assertEqual(rungs.pulls_to((346, 348, 352, 358, 336, 330)), (math.prod(primes) - 1,))

    def test_levers_of_thirty_figures_are_kept(self):
        lever = [10 ** 29 + place for place in range(6)]
        big = Rungs(Vault(SIZES, [lever, [-number for number in lever]]))
        small = Rungs(Vault(SIZES, [[n % s for n, s in zip(lever, SIZES)], [-n % s for n, s in zip(lever, SIZES)]]))
        self.assertEqual((big.steps(), big.rows(), big.spans(), big.idle()),
                         (small.steps(), small.rows(), small.spans(), small.idle()))

    def test_the_told_pulls_turn_the_vault(self):
        sizes, levers = large_vaults()[-7]
        vault = Vault(sizes, levers)
        setting = turned(vault, (0,) * 6, tuple(range(1, len(levers) + 1)))
        self.assertEqual(turned(vault, (0,) * 6, Rungs(vault).pulls_to(setting)), setting)


if __name__ == "__main__":
    unittest.main()
