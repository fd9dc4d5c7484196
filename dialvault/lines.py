"""The lines of a desk: how they are cut and read, and how answers are put into words."""

from dialvault.errors import NoLine, NoText
from dialvault.locks import Lock
from dialvault.texts import read_numbers
from dialvault.vault import kept

AHEAD_OF_NUMBER = " : "


# Told are the word and what stands behind it and its blank, None where there is no blank.
def cut_line(line):
    if not isinstance(line, str):
        raise NoLine("a line is a text")
    cut = line.partition(" ")
    return (cut[0], None if cut[1] == "" else cut[2])


def read_notches(vault, text):
    return kept(vault, read_numbers(text))


def read_two(text):
    numbers = read_numbers(text)
    if len(numbers) != 2:
        raise NoText("these are not two numbers")
    return numbers


def read_lock(text):
    cut = text.partition(AHEAD_OF_NUMBER)
    factors = read_numbers(cut[0])
    numbers = read_two(cut[2])
    return Lock(factors, numbers[0], numbers[1])


# Put together word by word: where there are no numbers, no blank stands behind the word.
def worded(word, numbers):
    return " ".join([word] + [str(number) for number in numbers])


def or_none(text):
    return "none" if text == "" else text


def show_step(step):
    return ("+" if step[1] == 1 else "-") + str(step[0])
