"""The kinds, how many things each size of them has, and which triples of things are looked at."""

from onehue.errors import NoKind, NoSize

GREATEST = {"pairs": 9, "sums": 40, "steps": 40}


def check_kind(kind):
    if kind not in GREATEST:
        raise NoKind(f"{kind!r} is no kind")


def check_kind_and_size(kind, size):
    check_kind(kind)
    greatest = GREATEST[kind]
    if size < 0 or size > greatest:
        raise NoSize(f"{size} is no size of {kind}, which has those from 0 to {greatest}")


def things(kind, size):
    check_kind_and_size(kind, size)
    if kind == "pairs":
        return size * (size - 1) // 2
    return size


def triples(kind, size):
    check_kind_and_size(kind, size)
    if kind == "pairs":
        return pair_triples(size)
    if kind == "sums":
        return sum_triples(size)
    return step_triples(size)


def pair_numbers(points):
    numbers = {}
    for low in range(points):
        for high in range(low + 1, points):
            numbers[(low, high)] = len(numbers)
    return numbers


# The three walks below meet the triples rising, so that none of them sorts.


def pair_triples(points):
    numbers = pair_numbers(points)
    found = []
    for low in range(points):
        for middle in range(low + 1, points):
            for high in range(middle + 1, points):
                found.append((numbers[(low, middle)], numbers[(low, high)], numbers[(middle, high)]))
    return found


def sum_triples(size):
    found = []
    for low in range(1, size + 1):
        for high in range(low, size - low + 1):
            found.append((low - 1, high - 1, low + high - 1))
    return found


def step_triples(size):
    found = []
    for first in range(1, size + 1):
        for step in range(1, (size - first) // 2 + 1):
            found.append((first - 1, first + step - 1, first + 2 * step - 1))
    return found
