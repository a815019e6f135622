"""What the tests compare with, made in another way than in the program: picked out of all there is."""

from itertools import combinations, combinations_with_replacement, product

GREATEST = {"pairs": 9, "sums": 40, "steps": 40}
OTHER_KINDS = ["", " ", "pair", "Pairs", "PAIRS", "pairs ", " sums", "sums\n", "sum", "step", "Steps", "0", "pairssums"]
OTHER_COUNTS = [-100, -1, 0, 4, 100]


def other_sizes(kind):
    return [-100, -2, -1, GREATEST[kind] + 1, GREATEST[kind] + 2, 99, 100]


def told_pairs(size):
    return sorted((low, high) for low in range(size) for high in range(size) if low < high)


def number_of_things(kind, size):
    return len(told_pairs(size)) if kind == "pairs" else len(range(1, size + 1))


# The triples are picked out of all threes of things, where the program walks points and numbers.


def picked_pairs(size, among):
    pairs = told_pairs(size)
    threes = combinations(among, 3)
    return [three for three in threes if len(set().union(*[pairs[thing] for thing in three])) == 3]


def picked_sums(size, among):
    threes = combinations_with_replacement(among, 3)
    return [(x, y, z) for x, y, z in threes if (x + 1) + (y + 1) == z + 1]


def picked_steps(size, among):
    return [(x, y, z) for x, y, z in combinations(among, 3) if y - x == z - y]


PICKED = {"pairs": picked_pairs, "sums": picked_sums, "steps": picked_steps}


def picked_triples(kind, size):
    return sorted(PICKED[kind](size, range(number_of_things(kind, size))))


def picked_of_one_hue(kind, size, hues):
    found = []
    for hue in set(hues):
        found += PICKED[kind](size, [thing for thing in range(len(hues)) if hues[thing] == hue])
    return sorted(found)


def all_dyeings(length, count):
    return [list(hues) for hues in product(range(count), repeat=length)]


def all_free(kind, size, count):
    threes = [set(triple) for triple in picked_triples(kind, size)]
    dyeings = all_dyeings(number_of_things(kind, size), count)
    return [hues for hues in dyeings if all(len({hues[thing] for thing in three}) > 1 for three in threes)]


# Counts up like a number with one digit a thing; where a triple is of one hue, its last digit is the next to rise.
def first_free_counted_up(kind, size, count):
    hues = [0] * number_of_things(kind, size)
    while True:
        bad = picked_of_one_hue(kind, size, hues)
        if not bad:
            return hues
        place = min(max(triple) for triple in bad)
        while place >= 0 and hues[place] == count - 1:
            place -= 1
        if place < 0:
            return None
        hues[place:] = [hues[place] + 1] + [0] * (len(hues) - place - 1)


def mixed_hues(length, count, seed):
    hues = []
    for place in range(length):
        seed = (seed * 1103515245 + 12345) % 2147483648
        hues.append(seed // 65536 % count)
    return hues


def some_dyeings(length, count):
    places = range(length)
    of_one_hue = [[hue] * length for hue in range(count)]
    in_turn = [[(place + start) % count for place in places] for start in range(count)]
    in_stretches = [[place // long % count for place in places] for long in [2, 3, 5]]
    in_one_stretch_each = [[place * count // length for place in places]]
    with_one_apart = [[count - 1 if place == apart else 0 for place in places] for apart in [0, length - 1]]
    mixed = [mixed_hues(length, count, seed) for seed in [1, 7, 2024]]
    return of_one_hue + in_turn + in_stretches + in_one_stretch_each + with_one_apart + mixed
