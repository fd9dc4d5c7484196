"""Whole numbers and vaults as texts, shown and read."""

from dialvault.errors import NoText
from dialvault.vault import Vault

FIGURES = "0123456789"
MOST_FIGURES = 30
BETWEEN_PARTS = "; "
AHEAD_OF_PRICE = " : "
PLAIN_PRICE = 1


def show_numbers(numbers):
    return " ".join([str(number) for number in numbers])


# The signs are looked at one by one: isdigit and int take more than these ten figures.
def is_figures(text):
    if not 1 <= len(text) <= MOST_FIGURES or not all([sign in FIGURES for sign in text]):
        return False
    return text[0] != "0" or text == "0"


def read_number(text):
    figures = text[1:] if text.startswith("-") else text
    if not is_figures(figures) or text == "-0":
        raise NoText("this is no whole number of at most thirty figures")
    return int(text)


def read_numbers(text):
    need_text(text)
    # Cut at its blanks, the text without signs would be one word, not none.
    if text == "":
        return ()
    return tuple([read_number(word) for word in text.split(" ")])


def need_text(thing):
    if not isinstance(thing, str):
        raise NoText("this is no text")


def show_lever(lever, price):
    if price == PLAIN_PRICE:
        return show_numbers(lever)
    return show_numbers(lever) + AHEAD_OF_PRICE + show_numbers([price])


def show_vault(vault):
    levers = [show_lever(lever, price) for lever, price in zip(vault.levers(), vault.prices())]
    return BETWEEN_PARTS.join([show_numbers(vault.sizes())] + levers)


def read_lever(part):
    cut = part.partition(AHEAD_OF_PRICE)
    notches = read_numbers(cut[0])
    if cut[1] == "":
        return (notches, PLAIN_PRICE)
    prices = read_numbers(cut[2])
    if len(prices) != 1:
        raise NoText("a lever has just one price")
    return (notches, prices[0])


# All parts are read ahead of the making: NoText goes first, wherever in the text it is due.
def read_vault(text):
    need_text(text)
    parts = text.split(BETWEEN_PARTS)
    sizes = read_numbers(parts[0])
    priced = [read_lever(part) for part in parts[1:]]
    return Vault(sizes, [lever[0] for lever in priced], [lever[1] for lever in priced])
