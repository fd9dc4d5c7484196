"""How a vault's classes are built: numbers, each dividing the next, by which they are read off."""

from dialvault.errors import NoDial, NoNumber, NoSetting
from dialvault.rungs import Rungs, mixed
from dialvault.vault import added, is_within, need_setting, nought, rests
from dialvault.wholes import common, is_row, is_whole, product_of, rest_sums, unit_row


def unit_rows(length):
    return [unit_row(length, place) for place in range(length)]


# Each tie is a row of notches that come to nought: each dial's step, with its whole step size
# at the dial. All that comes to nought is made of these, turned any number of times.
def ties_of(vault):
    rungs = Rungs(vault)
    ties = []
    for dial, step in enumerate(rungs.steps()):
        row = rungs.rows()[dial]
        ties.append(row[:dial] + (step,) + row[dial + 1:])
    return ties


def swapped(row, one, other):
    told = list(row)
    told[one] = row[other]
    told[other] = row[one]
    return tuple(told)


def less_at(row, other, times, place):
    return row[:other] + (row[other] - times * row[place],) + row[other + 1:]


# Tells where the least number that is not 0 stands, of the ties and places from this one on.
def least_tie(ties, place):
    found = []
    for tie in range(place, len(ties)):
        for other in range(place, len(ties)):
            if ties[tie][other] != 0:
                found.append((abs(ties[tie][other]), tie, other))
    return min(found)


# Tells the first tie from this place on that has a number there which the place's own does
# not divide; None where there is no such tie.
def unfit_tie(ties, place):
    by = ties[place][place]
    for tie in range(place, len(ties)):
        if any([number % by != 0 for number in ties[tie][place:]]):
            return tie
    return None


# The dials are read at places: at first each dial at its own, then so that each tie has a
# number at its own place alone. What is done to the places of the ties is done to the dials'
# rows too, and the other way round to the rows that lead back.
class Places:
    def __init__(self, ties):
        self.ties = list(ties)
        self.dial_rows = unit_rows(len(ties))
        self.place_rows = unit_rows(len(ties))

    def swap_places(self, one, other):
        self.ties = [swapped(tie, one, other) for tie in self.ties]
        self.dial_rows = [swapped(row, one, other) for row in self.dial_rows]
        self.place_rows = list(swapped(self.place_rows, one, other))

    def take_place(self, other, times, place):
        self.ties = [less_at(tie, other, times, place) for tie in self.ties]
        self.dial_rows = [less_at(row, other, times, place) for row in self.dial_rows]
        self.place_rows[place] = mixed(self.place_rows[place], 1, self.place_rows[other], times)

    def take_tie(self, other, times, tie):
        self.ties[other] = mixed(self.ties[other], 1, self.ties[tie], -times)

    def bring_least(self, place):
        least = least_tie(self.ties, place)
        self.ties = list(swapped(self.ties, place, least[1]))
        self.swap_places(place, least[2])

    def take_out(self, place):
        by = self.ties[place][place]
        for other in range(place + 1, len(self.ties)):
            self.take_tie(other, self.ties[other][place] // by, place)
            self.take_place(other, self.ties[place][other] // by, place)

    # What is taken out leaves rests that are less than the place's own number. A tie behind it
    # that is unfit comes in, so that it leaves such a rest as well: the number shrinks each time.
    def settle(self, place):
        unfit = place
        while unfit is not None:
            if unfit != place:
                self.take_tie(place, -1, unfit)
            self.bring_least(place)
            self.take_out(place)
            unfit = unfit_tie(self.ties, place)


def settled(vault):
    places = Places(ties_of(vault))
    for place in range(len(vault.sizes())):
        places.settle(place)
    return places


class Build:
    def __init__(self, vault):
        places = settled(vault)
        numbers = tuple([abs(tie[place]) for place, tie in enumerate(places.ties)])
        self.vault = vault
        self.build_numbers = numbers
        self.forth_rows = tuple([rests(row, numbers) for row in places.dial_rows])
        self.back_settings = tuple([rests(row, vault.sizes()) for row in places.place_rows])

    def numbers(self):
        return self.build_numbers

    def forth_table(self):
        return self.forth_rows

    def forth(self, setting):
        need_setting(self.vault, setting)
        return rest_sums(setting, self.forth_rows, self.build_numbers)

    def back(self, place):
        if not is_within(place, 0, len(self.build_numbers) - 1):
            raise NoDial(place)
        return self.back_settings[place]

    def back_of(self, row):
        if not isinstance(row, tuple) or not is_row(row, len(self.build_numbers)):
            raise NoSetting("this is not one whole number for each of the build's numbers")
        reached = nought(self.vault)
        for times, setting in zip(rests(row, self.build_numbers), self.back_settings):
            reached = added(self.vault, reached, setting, times)
        return reached


def ended_by(numbers, turns):
    return product_of([common(turns, number)[0] for number in numbers])


def ended(vault, t):
    if not is_whole(t) or t < 0:
        raise NoNumber("this is no number of turns")
    return ended_by(Build(vault).numbers(), t)


# The numbers that are 1 come first, and rows have 0 there: so rows are made as long as those
# of the other build at their front.
def ways_over(first, second):
    length = len(second.numbers())
    return [second.back_of(((0,) * length + row)[-length:]) for row in first.forth_table()]


def beyond_one(numbers):
    return [number for number in numbers if number != 1]


def alike(one, other):
    first = Build(one)
    second = Build(other)
    numbers = first.numbers()
    others = second.numbers()
    if beyond_one(numbers) == beyond_one(others):
        return ("alike", ways_over(first, second), ways_over(second, first))
    turns = 2
    while ended_by(numbers, turns) == ended_by(others, turns):
        turns += 1
    return ("unlike", turns, ended_by(numbers, turns), ended_by(others, turns))
