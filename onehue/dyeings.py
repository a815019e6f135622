"""Dyeings: which triples of one hue they have, whether they are free, and their hues exchanged."""

from onehue.errors import NoDyeing, NoHues
from onehue.things import check_kind_and_size, things, triples

GREATEST_COUNT = 3


def check_count(count):
    if count < 1 or count > GREATEST_COUNT:
        raise NoHues(f"{count} is no count of hues, which are 1 to {GREATEST_COUNT}")


def check_dyeing(kind, size, count, hues):
    check_kind_and_size(kind, size)
    check_count(count)
    asked = things(kind, size)
    given = len(hues)
    if given != asked:
        raise NoDyeing(f"there are {asked} things, and {given} hues for them")
    for hue in hues:
        if not is_hue(hue, count):
            raise NoDyeing(f"{hue} is no hue of {count}, numbered from nought")


def check_hue(hue, count):
    if not is_hue(hue, count):
        raise NoHues(f"{hue} is no hue of {count}, numbered from nought")


def is_hue(hue, count):
    return 0 <= hue and hue < count


def is_of_one_hue(triple, hues):
    hue = hues[triple[0]]
    return hues[triple[1]] == hue and hues[triple[2]] == hue


def one_hued(kind, size, count, hues):
    check_dyeing(kind, size, count, hues)
    return [triple for triple in triples(kind, size) if is_of_one_hue(triple, hues)]


def is_free(kind, size, count, hues):
    return len(one_hued(kind, size, count, hues)) == 0


def exchanged(kind, size, count, hues, one, other):
    check_dyeing(kind, size, count, hues)
    check_hue(one, count)
    check_hue(other, count)
    return [exchanged_hue(hue, one, other) for hue in hues]


def exchanged_hue(hue, one, other):
    if hue == one:
        return other
    if hue == other:
        return one
    return hue
