"""What several tests draw on: odd things, a check of refusals, and the definitions gone through one by one."""

import itertools
import math
import random
import unittest

from dialvault.errors import VaultError

BIG = 123456789012345678901234567890
NO_NUMBERS = [True, False, None, "", "0", (), (0,), [], [0], {}]


class Odd:
    def __eq__(self, other):
        raise RuntimeError

    def __len__(self):
        raise RuntimeError

    def __bool__(self):
        raise RuntimeError

    def __int__(self):
        return 1

    def __index__(self):
        return 1


# None of these is a setting or pulls of a vault of three dials and two levers.
THINGS = [
    None, True, False, 0, 1, -1, BIG, "", "0", "000", "0 0 0", [], [0, 0, 0], [0, 0], {}, {0: 0, 1: 0, 2: 0},
    (), (0,), (0, 0, 0, 0), ((0, 0, 0),), (None, None, None), ("0", "0", "0"), set(), b"000", Odd(), Odd, len,
    range(3), ...,
]


class Refused(unittest.TestCase):
    def refused(self, kind, call, *arguments):
        with self.assertRaises(VaultError) as caught:
            call(*arguments)
        self.assertIs(type(caught.exception), kind)
        return caught.exception


def settings(sizes):
    return list(itertools.product(*[range(size) for size in sizes]))


def plus(sizes, one, other, times=1):
    return tuple((a + times * b) % size for a, b, size in zip(one, other, sizes))


def reached(sizes, setting, levers, pulls):
    for lever, times in zip(levers, pulls):
        setting = plus(sizes, setting, lever, times)
    return setting


def doings(sizes, levers):
    found = {(0,) * len(sizes)}
    edge = list(found)
    while edge:
        setting = edge.pop()
        for lever in levers:
            other = plus(sizes, setting, lever)
            if other not in found:
                found.add(other)
                edge.append(other)
    return found


def weight_of(sizes, weights, setting):
    around = math.lcm(*sizes)
    return sum(w * n * (around // size) for w, n, size in zip(weights, setting, sizes)) % around


def stills(sizes, levers):
    return [w for w in settings(sizes) if all(weight_of(sizes, w, lever) == 0 for lever in levers)]


# The step sizes and the steps, of all the doings.
def sizes_of(sizes, done):
    told = []
    for dial, size in enumerate(sizes):
        notches = [d[dial] for d in done if not any(d[:dial]) and d[dial] > 0]
        told.append(min(notches, default=size))
    return tuple(told)


def rows_of(sizes, done):
    told = []
    for dial, step in enumerate(sizes_of(sizes, done)):
        if step == sizes[dial]:
            told.append((0,) * len(sizes))
        else:
            told.append(min(d for d in done if not any(d[:dial]) and d[dial] == step))
    return told


def step_sizes(sizes, levers):
    return sizes_of(sizes, doings(sizes, levers))


def step_rows(sizes, levers):
    return rows_of(sizes, doings(sizes, levers))


# All that a vault tells of itself; and what the clear vault tells that has these doings.
def told(vault):
    return (vault.sizes(), vault.levers(), vault.prices())


def clear_told(sizes, done):
    levers = tuple(row for row in rows_of(sizes, done) if any(row))
    return (tuple(sizes), levers, (1,) * len(levers))


def spans(sizes, levers):
    told = []
    for lever in range(len(levers)):
        ahead = doings(sizes, levers[:lever])
        times = 1
        while plus(sizes, (0,) * len(sizes), levers[lever], times) not in ahead:
            times += 1
        told.append(times)
    return tuple(told)


# All pulls in normal form that lead from nought to each doing: the document says that it is one.
def normal_forms(sizes, levers):
    told = {}
    for pulls in itertools.product(*[range(span) for span in spans(sizes, levers)]):
        told.setdefault(reached(sizes, (0,) * len(sizes), levers, pulls), []).append(pulls)
    return told


# Sizes and levers of vaults that are small enough to be gone through.
SMALL = [
    ((2,), ()),
    ((7,), ((0,),)),
    ((12,), ((8,),)),
    ((12,), ((8,), (6,))),
    ((12,), ((6,), (8,), (4,), (3,))),
    ((5,), ((1,), (2,), (3,), (4,), (0,), (1,), (2,), (3,))),
    ((2, 2), ((1, 1),)),
    ((4, 6), ()),
    ((4, 6), ((0, 0), (0, 0))),
    ((4, 6), ((2, 3),)),
    ((4, 6), ((1, 1),)),
    ((4, 6), ((2, 3), (2, 3))),
    ((4, 6), ((2, 3), (2, 0), (0, 3))),
    ((6, 4), ((3, 1), (0, 2), (3, 3))),
    ((6, 6), ((2, 3), (4, 3), (2, 0))),
    ((9, 3), ((3, 1), (6, 2), (0, 0))),
    ((8, 8), ((2, 6), (4, 4), (6, 2))),
    ((3, 5), ((1, 1),)),
    ((2, 3, 4), ((1, 1, 1),)),
    ((2, 3, 4), ((1, 0, 2), (0, 1, 0))),
    ((4, 4, 4), ((1, 2, 3), (2, 0, 2))),
    ((6, 4, 2), ((2, 1, 1), (3, 2, 0), (0, 2, 1))),
    ((2, 2, 2, 2), ((1, 1, 0, 0), (0, 1, 1, 0), (0, 0, 1, 1), (1, 0, 0, 1))),
    ((2, 4, 2, 4), ((1, 2, 1, 2), (0, 2, 0, 1))),
    ((2, 2, 2, 2, 2), ((1, 0, 1, 0, 1), (0, 1, 1, 1, 0))),
    ((2, 3, 2, 2, 2, 3), ((1, 1, 0, 1, 0, 2), (0, 2, 1, 1, 0, 1), (1, 0, 0, 0, 1, 0))),
]


# More of them, the same each time; few settings, so that every two of them can be asked.
def more_small(seed, count, most):
    chance = random.Random(seed)
    found = []
    while len(found) < count:
        sizes = tuple(chance.choice((2, 3, 4, 5, 6, 8, 9, 10, 12, 16)) for _ in range(chance.randint(1, 4)))
        if math.prod(sizes) > most:
            continue
        stride = chance.choice((1, 1, 2, 3))
        found.append((sizes, drawn_levers(chance, sizes, chance.randint(0, 5), stride)))
    return found


def drawn_levers(chance, sizes, count, stride):
    return tuple(tuple(stride * chance.randrange(size) % size for size in sizes) for _ in range(count))


# Sizes of a vault that is too large to be gone through.
SIZES = (360, 240, 180, 144, 100, 64)


def large_vaults():
    chance = random.Random(360)
    found = [
        (SIZES, ()),
        (SIZES, ((0,) * 6,) * 8),
        (SIZES, ((1, 1, 1, 1, 1, 1),)),
        (SIZES, ((2, 4, 6, 8, 10, 12),) * 8),
        ((360,) * 6, tuple(tuple(180 if k == j else 0 for k in range(6)) for j in range(6))),
        ((360,) * 6, tuple(tuple(1 if k == j % 6 else 0 for k in range(6)) for j in range(8))),
        ((360, 359, 358, 357, 353, 349), ((1, 1, 1, 1, 1, 1), (359, 358, 357, 356, 352, 348))),
        ((360, 359, 358, 357, 353, 349), ((2, 2, 2, 2, 2, 2), (3, 3, 3, 3, 3, 3), (5, 0, 1, 0, 1, 0))),
        ((2, 360, 2, 360, 2, 360), ((1, 1, 1, 1, 1, 1), (0, 180, 1, 90, 0, 45), (1, 7, 0, 77, 1, 177))),
    ]
    for count in range(1, 9):
        for stride in (1, 2, 6, 12, 60):
            sizes = tuple(chance.choice((360, 359, 240, 210, 128, 81, 36, 343, 2)) for _ in range(6))
            found.append((sizes, drawn_levers(chance, sizes, count, stride)))
    # The same again: levers that are sums of those ahead of them do nothing more.
    for sizes, levers in found[-6:]:
        found.append((sizes, levers[:4] + tuple(plus(sizes, levers[j], levers[j + 1], 7) for j in range(4))))
    return found
