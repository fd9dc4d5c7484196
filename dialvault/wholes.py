"""Whole numbers: what is one, what divides two of them, and sums and products of rows."""


# True and False are ints to Python, but no whole numbers here.
def is_whole(thing):
    return isinstance(thing, int) and not isinstance(thing, bool)


def is_row(thing, length):
    if not isinstance(thing, (list, tuple)) or len(thing) != length:
        return False
    return all([is_whole(number) for number in thing])


# Each row (value, a, b) holds value == a * one + b * other throughout, so the last one
# brings the greatest that divides both together with the two numbers by which it is a sum.
def common(one, other):
    row = (one, 1, 0)
    behind = (other, 0, 1)
    while behind[0] != 0:
        times = row[0] // behind[0]
        rest = (row[0] - times * behind[0], row[1] - times * behind[1], row[2] - times * behind[2])
        row = behind
        behind = rest
    if row[0] < 0:
        return (-row[0], -row[1], -row[2])
    return row


def multiple_of(numbers):
    multiple = 1
    for number in numbers:
        multiple = multiple // common(multiple, number)[0] * number
    return multiple


def product_of(numbers):
    product = 1
    for number in numbers:
        product = product * number
    return product


def unit_row(length, place):
    return tuple([1 if other == place else 0 for other in range(length)])


def column(rows, place):
    return [row[place] for row in rows]


def rest_sum(numbers, others, by):
    return sum([number * other for number, other in zip(numbers, others)]) % by


# Each row tells what one turn of its number adds at each place.
def rest_sums(numbers, rows, sizes):
    return tuple([rest_sum(numbers, column(rows, place), size) for place, size in enumerate(sizes)])
