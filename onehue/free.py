"""Free dyeings: the first one, how many there are, and the first size of which there is none."""

from onehue.dyeings import check_count, is_of_one_hue
from onehue.errors import TooMuch
from onehue.things import check_kind, check_kind_and_size, things, triples

MOST_THINGS = 15
MOST_THINGS_COUNTED = {1: 15, 2: 15, 3: 8}
MOST_HUES = {"pairs": 2, "sums": 3, "steps": 2}


def first_free(kind, size, count):
    check_asked(kind, size, count)
    check_things(kind, size, MOST_THINGS)
    return first_from([], ended_triples(kind, size), count)


def how_many(kind, size, count):
    check_asked(kind, size, count)
    check_things(kind, size, MOST_THINGS_COUNTED[count])
    return how_many_from([], ended_triples(kind, size), count)


def first_size(kind, count):
    check_kind(kind)
    check_count(count)
    most = MOST_HUES[kind]
    if count > most:
        raise TooMuch(f"the first size of {kind} is told with at most {most} hues, not with {count}")
    size = 0
    while first_free(kind, size, count) is not None:
        size += 1
    return size


def check_asked(kind, size, count):
    check_kind_and_size(kind, size)
    check_count(count)


def check_things(kind, size, most):
    there = things(kind, size)
    if there > most:
        raise TooMuch(f"there are {there} things, more than {most}")


# A triple's last thing is its greatest, so each triple can be judged as soon as the hues reach that thing.
def ended_triples(kind, size):
    ended = [[] for thing in range(things(kind, size))]
    for triple in triples(kind, size):
        ended[triple[2]].append(triple)
    return ended


def stays_free(hues, ended):
    return not any([is_of_one_hue(triple, hues) for triple in ended[len(hues) - 1]])


# With the lesser hue first, the dyeings are met in their order.
def one_longer(begun, ended, count):
    tried = [begun + [hue] for hue in range(count)]
    return [hues for hues in tried if stays_free(hues, ended)]


def first_from(begun, ended, count):
    if len(begun) == len(ended):
        return begun
    for hues in one_longer(begun, ended, count):
        found = first_from(hues, ended, count)
        if found is not None:
            return found
    return None


def how_many_from(begun, ended, count):
    if len(begun) == len(ended):
        return 1
    return sum([how_many_from(hues, ended, count) for hues in one_longer(begun, ended, count)])
