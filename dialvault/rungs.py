"""The rungs of a vault: the steps of its dials, the spans of its levers, and what these tell."""

from dialvault.errors import NoDial
from dialvault.papers import Bar, Way, weigh
from dialvault.vault import between, is_within, need_setting, nought, rests
from dialvault.wholes import common, unit_row


def mixed(row, times, other, others):
    return tuple([times * one + others * two for one, two in zip(row, other)])


# A made row is a doing and pulls that lead to it from nought. The two are always mixed
# alike, so that pulls are at hand wherever a doing is.
def mixed_made(sizes, made, times, other, others):
    doing = mixed(made[0], times, other[0], others)
    return (rests(doing, sizes), mixed(made[1], times, other[1], others))


def unpulled(vault, setting):
    return (setting, (0,) * len(vault.levers()))


def pulled_once(vault, lever):
    levers = vault.levers()
    return (levers[lever], unit_row(len(levers), lever))


# Kept by its dial, a step of the dial's whole size is 0 there.
def step_size(sizes, made_rows, dial):
    notch = made_rows[dial][0][dial]
    return sizes[dial] if notch == 0 else notch


# Told are the steps with what is left among them, and idle pulls. At each dial what is left
# is taken just so many times that the step there brings it to 0: so behind the last dial
# nought is left, and a lever was taken as many times in all as its span tells.
def taken_in(sizes, made_rows, left):
    wider = []
    for dial, made in enumerate(made_rows):
        step = step_size(sizes, made_rows, dial)
        notch = left[0][dial]
        found = common(step, notch)
        wider.append(mixed_made(sizes, made, found[1], left, found[2]))
        left = mixed_made(sizes, left, step // found[0], made, -(notch // found[0]))
    return (wider, left[1])


# A step has 0 at the dials ahead of its own, so what is below its step size stays so.
def lowered(sizes, made_rows, made, first):
    for dial in range(first, len(sizes)):
        times = made[0][dial] // step_size(sizes, made_rows, dial)
        made = mixed_made(sizes, made, 1, made_rows[dial], -times)
    return made


# From the last lever on to the first one: an idle row has 0 at each lever behind its own.
def in_spans(pulls, idle_rows):
    for lever in range(len(idle_rows) - 1, -1, -1):
        row = idle_rows[lever]
        pulls = mixed(pulls, 1, row, -(pulls[lever] // row[lever]))
    return pulls


class Rungs:
    # A span hangs on the levers ahead alone, so the levers are taken in one after the other.
    def __init__(self, vault):
        sizes = vault.sizes()
        made_rows = [unpulled(vault, nought(vault)) for size in sizes]
        idle_rows = []
        for lever in range(len(vault.levers())):
            taken = taken_in(sizes, made_rows, pulled_once(vault, lever))
            made_rows = taken[0]
            idle_rows.append(in_spans(taken[1], idle_rows))
        self.vault = vault
        self.made_rows = [lowered(sizes, made_rows, made, dial + 1) for dial, made in enumerate(made_rows)]
        self.idle_rows = idle_rows

    def steps(self):
        sizes = self.vault.sizes()
        return tuple([step_size(sizes, self.made_rows, dial) for dial in range(len(sizes))])

    def rows(self):
        return [made[0] for made in self.made_rows]

    def spans(self):
        return tuple([row[lever] for lever, row in enumerate(self.idle_rows)])

    def idle(self):
        return list(self.idle_rows)

    def brought_down(self, setting):
        need_setting(self.vault, setting)
        return lowered(self.vault.sizes(), self.made_rows, unpulled(self.vault, setting), 0)

    def least(self, setting):
        return self.brought_down(setting)[0]

    def pulls_to(self, setting):
        made = self.brought_down(setting)
        if made[0] != nought(self.vault):
            return None
        # These pulls lead down from the setting to nought, not up to it.
        return in_spans(tuple([-times for times in made[1]]), self.idle_rows)

    # From the dial on to the first one: the weight at each makes up for what the weights
    # behind it weigh of the step there.
    def weights_at(self, dial):
        sizes = self.vault.sizes()
        if not is_within(dial, 0, len(sizes) - 1):
            raise NoDial(dial)
        fills = [size // step for size, step in zip(sizes, self.steps())]
        weights = [0] * len(sizes)
        weights[dial] = fills[dial] % sizes[dial]
        for ahead in range(dial - 1, -1, -1):
            weighed = weigh(self.vault, tuple(weights), self.made_rows[ahead][0])
            share = self.vault.around() // fills[ahead]
            weights[ahead] = -(weighed // share) % fills[ahead]
        return tuple(weights)


def first_turned(setting):
    return [notch != 0 for notch in setting].index(True)


def bring(vault, one, other):
    difference = between(vault, one, other)
    rungs = Rungs(vault)
    pulls = rungs.pulls_to(difference)
    if pulls is not None:
        return Way(pulls)
    return Bar(rungs.weights_at(first_turned(rungs.least(difference))))
