"""A desk that is told lines of text, keeps a vault, a setting at hand and locks, and answers with texts."""

from dialvault.build import Build, alike
from dialvault.classes import class_count, fewest_levers, least_of, places_in, together_count
from dialvault.errors import NoLine, VaultError
from dialvault.lines import cut_line, or_none, read_lock, read_notches, read_two, show_step, worded
from dialvault.locks import need_locks, open_from
from dialvault.pairs import both, together
from dialvault.papers import Bar
from dialvault.roads import Roads, cheapest
from dialvault.rungs import Rungs, bring
from dialvault.stills import clear, stills
from dialvault.texts import read_vault, show_numbers, show_vault
from dialvault.vault import nought, pulled, turned


# In each of these, the desk is changed last, behind all that may be refused.
def say_vault(desk, behind):
    desk.vault = read_vault(behind)
    desk.at_hand = nought(desk.vault)
    desk.locks = []
    return "ok"


def say_at(desk, behind):
    desk.at_hand = read_notches(desk.vault, behind)
    return show_numbers(desk.at_hand)


def say_pull(desk, behind):
    numbers = read_two(behind)
    desk.at_hand = pulled(desk.vault, desk.at_hand, numbers[0], numbers[1])
    return show_numbers(desk.at_hand)


# The words of a paper are its kind and its numbers.
def follow(desk, paper):
    words = paper.words()
    if paper.brings():
        desk.at_hand = turned(desk.vault, desk.at_hand, words[1])
    return worded(words[0], words[1])


def say_to(desk, behind):
    return follow(desk, bring(desk.vault, desk.at_hand, read_notches(desk.vault, behind)))


def say_least(desk):
    return show_numbers(least_of(desk.vault, desk.at_hand))


def say_count(desk):
    return show_numbers([together_count(desk.vault), class_count(desk.vault)])


def say_idle(desk):
    return or_none("; ".join([show_numbers(row) for row in Rungs(desk.vault).idle()]))


def say_few(desk):
    return or_none(show_numbers(places_in(fewest_levers(desk.vault))))


def say_clear(desk):
    return show_vault(clear(desk.vault))


def say_stills(desk):
    return show_vault(stills(desk.vault))


def say_build(desk):
    return show_numbers(Build(desk.vault).numbers())


def say_with(desk, behind):
    return show_vault(together(desk.vault, read_vault(behind)))


def say_both(desk, behind):
    return show_vault(both(desk.vault, read_vault(behind)))


def say_alike(desk, behind):
    found = alike(desk.vault, read_vault(behind))
    return "alike" if found[0] == "alike" else worded("unlike", found[1:])


# The locks that stand already fit: so it is the new one that is refused.
def say_lock(desk, behind):
    locks = desk.locks + [read_lock(behind)]
    need_locks(desk.vault, desk.at_hand, locks)
    desk.locks = locks
    return worded("locks", [len(locks)])


def say_free(desk):
    desk.locks = []
    return worded("locks", [0])


def say_open(desk):
    return follow(desk, open_from(desk.vault, desk.at_hand, desk.locks))


def say_road(desk, behind):
    found = cheapest(desk.vault, desk.at_hand, read_notches(desk.vault, behind))
    if isinstance(found, Bar):
        return worded("weights", found.weights)
    return " ".join([str(found[0])] + [show_step(step) for step in found[1]])


def say_dearest(desk):
    found = Roads(desk.vault, desk.at_hand).dearest()
    return worded(str(found[0]), found[1])


ALONE = {
    "least": say_least,
    "count": say_count,
    "idle": say_idle,
    "few": say_few,
    "clear": say_clear,
    "stills": say_stills,
    "build": say_build,
    "free": say_free,
    "open": say_open,
    "dearest": say_dearest,
}
FOLLOWED = {
    "vault": say_vault,
    "at": say_at,
    "pull": say_pull,
    "to": say_to,
    "with": say_with,
    "both": say_both,
    "alike": say_alike,
    "lock": say_lock,
    "road": say_road,
}


class Desk:
    def __init__(self):
        self.vault = None
        self.at_hand = ()
        self.locks = []

    def say(self, line):
        cut = cut_line(line)
        word = cut[0]
        if self.vault is None and word != "vault":
            raise NoLine("no vault stands here")
        if cut[1] is None and word in ALONE:
            answer = ALONE[word]
            return answer(self)
        if cut[1] is not None and word in FOLLOWED:
            answer_of = FOLLOWED[word]
            return answer_of(self, cut[1])
        raise NoLine("there is no such line")


def answered(desk, line):
    try:
        return (True, desk.say(line))
    except VaultError as refusal:
        return (False, refusal.word())


def answers_to(text):
    if text == "":
        return []
    desk = Desk()
    return [answered(desk, line) for line in text.split("\n")]
