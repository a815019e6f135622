import unittest
from itertools import combinations
from math import comb

from picked import (
    GREATEST, OTHER_COUNTS, OTHER_KINDS, all_dyeings, all_free, number_of_things, other_sizes, picked_of_one_hue,
    some_dyeings, told_pairs,
)

from onehue.dyeings import exchanged, is_free, one_hued
from onehue.errors import NoDyeing, NoHues, NoKind, NoSize

SIZES = {"pairs": [0, 1, 2, 3, 5, 9], "sums": [0, 1, 2, 3, 17, 40], "steps": [0, 1, 2, 3, 17, 40]}
COUNTS = [1, 2, 3]
ASKED = [(kind, size, count) for kind in SIZES for size in SIZES[kind] for count in COUNTS]
DYED = [
    (kind, size, count, hues) for kind, size, count in ASKED
    for hues in some_dyeings(number_of_things(kind, size), count)
]


def each_two_hues(count):
    return [(one, other) for one in range(count) for other in range(count)]


def exchange_first(kind, size, count, hues):
    return exchanged(kind, size, count, hues, 0, count - 1)


def exchange_none(kind, size, count, hues):
    return exchanged(kind, size, count, hues, 0, 0)


ALL_TOLD = [one_hued, is_free, exchange_first, exchange_none]


class TestOneHued(unittest.TestCase):
    def test_lists_against_those_picked(self):
        for kind, size, count, hues in DYED:
            with self.subTest(kind=kind, size=size, count=count, hues=hues):
                self.assertEqual(one_hued(kind, size, count, hues), picked_of_one_hue(kind, size, hues))

    def test_lists_of_all_dyeings_of_few_things(self):
        for kind, size in [("pairs", 3), ("pairs", 4), ("sums", 4), ("sums", 5), ("steps", 4), ("steps", 5)]:
            for count in COUNTS:
                for hues in all_dyeings(number_of_things(kind, size), count):
                    with self.subTest(kind=kind, size=size, count=count, hues=hues):
                        self.assertEqual(one_hued(kind, size, count, hues), picked_of_one_hue(kind, size, hues))

    def test_by_hand(self):
        self.assertEqual(one_hued("pairs", 4, 2, [0, 0, 1, 0, 1, 1]), [(0, 1, 3)])
        self.assertEqual(one_hued("pairs", 4, 3, [2, 2, 1, 2, 1, 1]), [(0, 1, 3)])
        self.assertEqual(one_hued("pairs", 4, 2, [0, 0, 1, 1, 0, 0]), [])
        self.assertEqual(one_hued("sums", 5, 2, [0, 1, 1, 0, 1]), [(1, 2, 4)])
        self.assertEqual(one_hued("sums", 5, 2, [0, 1, 1, 0, 0]), [(0, 3, 4)])
        self.assertEqual(one_hued("sums", 2, 2, [1, 1]), [(0, 0, 1)])
        self.assertEqual(one_hued("steps", 5, 2, [1, 0, 1, 0, 1]), [(0, 2, 4)])
        self.assertEqual(one_hued("steps", 3, 3, [2, 2, 2]), [(0, 1, 2)])

    def test_form(self):
        for kind, size, count, hues in DYED:
            with self.subTest(kind=kind, size=size, count=count, hues=hues):
                told = one_hued(kind, size, count, hues)
                self.assertIs(type(told), list)
                self.assertTrue(all(type(triple) is tuple and len(triple) == 3 for triple in told))
                self.assertTrue(all(one < other for one, other in zip(told, told[1:])))

    def test_no_things(self):
        for kind, size in [("pairs", 0), ("pairs", 1), ("sums", 0), ("steps", 0)]:
            for count in COUNTS:
                with self.subTest(kind=kind, size=size, count=count):
                    self.assertEqual(one_hued(kind, size, count, []), [])
                    self.assertIs(is_free(kind, size, count, []), True)
                    self.assertEqual(exchanged(kind, size, count, [], 0, count - 1), [])

    def test_more_hues_than_the_dyeing_has_change_nothing(self):
        for kind, size, count, hues in DYED:
            with self.subTest(kind=kind, size=size, count=count, hues=hues):
                self.assertEqual(one_hued(kind, size, 3, hues), one_hued(kind, size, count, hues))


class TestIsFree(unittest.TestCase):
    def test_true_just_where_there_is_none(self):
        for kind, size, count, hues in DYED:
            with self.subTest(kind=kind, size=size, count=count, hues=hues):
                self.assertIs(is_free(kind, size, count, hues), picked_of_one_hue(kind, size, hues) == [])

    def test_both_answers_are_met(self):
        self.assertIs(is_free("pairs", 5, 2, [0, 1, 1, 0, 0, 1, 1, 0, 1, 0]), True)
        self.assertIs(is_free("pairs", 5, 2, [0, 1, 1, 0, 0, 1, 0, 0, 1, 0]), False)
        self.assertIs(is_free("sums", 4, 2, [0, 1, 1, 0]), True)
        self.assertIs(is_free("sums", 4, 2, [0, 1, 0, 1]), False)
        self.assertIs(is_free("steps", 8, 2, [0, 0, 1, 1, 0, 0, 1, 1]), True)
        self.assertIs(is_free("steps", 9, 2, [0, 0, 1, 1, 0, 0, 1, 1, 0]), False)


class TestExchanged(unittest.TestCase):
    def test_the_list_for_each_two_hues(self):
        for kind, size, count, hues in DYED:
            for one, other in each_two_hues(count):
                with self.subTest(kind=kind, size=size, count=count, hues=hues, one=one, other=other):
                    instead = {hue: hue for hue in range(count)}
                    instead.update({one: other, other: one})
                    told = exchanged(kind, size, count, hues, one, other)
                    self.assertIs(type(told), list)
                    self.assertEqual(told, [instead[hue] for hue in hues])

    def test_exchanged_again_it_is_what_was_handed_in(self):
        for kind, size, count, hues in DYED:
            for one, other in each_two_hues(count):
                with self.subTest(kind=kind, size=size, count=count, hues=hues, one=one, other=other):
                    told = exchanged(kind, size, count, hues, one, other)
                    self.assertEqual(exchanged(kind, size, count, told, one, other), hues)
                    self.assertEqual(exchanged(kind, size, count, told, other, one), hues)

    def test_the_triples_of_one_hue_stay_the_same(self):
        for kind, size, count, hues in DYED:
            for one, other in each_two_hues(count):
                with self.subTest(kind=kind, size=size, count=count, hues=hues, one=one, other=other):
                    told = exchanged(kind, size, count, hues, one, other)
                    self.assertEqual(one_hued(kind, size, count, told), one_hued(kind, size, count, hues))

    def test_a_free_dyeing_stays_free(self):
        for kind, size in [("pairs", 4), ("sums", 4), ("sums", 6), ("steps", 5)]:
            for count in COUNTS:
                for hues in all_free(kind, size, count):
                    for one, other in each_two_hues(count):
                        with self.subTest(kind=kind, size=size, count=count, hues=hues, one=one, other=other):
                            told = exchanged(kind, size, count, hues, one, other)
                            self.assertIs(is_free(kind, size, count, told), True)

    def test_by_hand(self):
        self.assertEqual(exchanged("sums", 5, 3, [0, 1, 2, 1, 0], 1, 2), [0, 2, 1, 2, 0])
        self.assertEqual(exchanged("sums", 5, 3, [0, 1, 2, 1, 0], 2, 0), [2, 1, 0, 1, 2])
        self.assertEqual(exchanged("sums", 5, 3, [0, 1, 2, 1, 0], 1, 1), [0, 1, 2, 1, 0])
        self.assertEqual(exchanged("pairs", 3, 2, [0, 0, 0], 0, 1), [1, 1, 1])
        self.assertEqual(exchanged("steps", 2, 1, [0, 0], 0, 0), [0, 0])


class TestParts(unittest.TestCase):
    def test_first_hues_of_sums_and_steps(self):
        for kind, size, count, hues in DYED:
            if kind != "pairs":
                whole = one_hued(kind, size, count, hues)
                for part in {0, 1, size // 3, size // 2, size - 1, size} & set(range(size + 1)):
                    with self.subTest(kind=kind, size=size, count=count, hues=hues, part=part):
                        within = [triple for triple in whole if max(triple) < part]
                        self.assertEqual(one_hued(kind, part, count, hues[:part]), within)

    def test_pairs_of_the_first_points(self):
        for kind, size, count, hues in DYED:
            if kind == "pairs":
                for points in range(size + 1):
                    with self.subTest(size=size, count=count, hues=hues, points=points):
                        self.check_first_points(size, count, hues, points)

    def check_first_points(self, size, count, hues, points):
        places = [place for place, pair in enumerate(told_pairs(size)) if max(pair) < points]
        part = [hues[place] for place in places]
        whole = one_hued("pairs", size, count, hues)
        within = [triple for triple in whole if set(triple) <= set(places)]
        told = one_hued("pairs", points, count, part)
        self.assertEqual([tuple(places[thing] for thing in triple) for triple in told], within)

    def test_a_free_dyeings_first_hues_are_free(self):
        for kind, size in [("sums", 4), ("sums", 6), ("steps", 5), ("steps", 6)]:
            for count in COUNTS:
                for hues in all_free(kind, size, count):
                    for part in range(size + 1):
                        with self.subTest(kind=kind, size=size, count=count, hues=hues, part=part):
                            self.assertIs(is_free(kind, part, count, hues[:part]), True)


class TestCountByPoints(unittest.TestCase):
    def check_count(self, size, hues):
        with self.subTest(size=size, hues=hues):
            pairs = told_pairs(size)
            twice = 0
            for point in range(size):
                there = [hue for pair, hue in zip(pairs, hues) if point in pair]
                twice += there.count(0) * there.count(1)
            self.assertEqual(twice % 2, 0)
            self.assertEqual(len(one_hued("pairs", size, 2, hues)), comb(size, 3) - twice // 2)

    def test_all_dyeings_of_at_most_four_points(self):
        for size in range(5):
            for hues in all_dyeings(number_of_things("pairs", size), 2):
                self.check_count(size, hues)

    def test_some_dyeings_of_five_to_nine_points(self):
        for size in range(5, 10):
            for hues in some_dyeings(number_of_things("pairs", size), 2):
                self.check_count(size, hues)


class TestTheAskersOwn(unittest.TestCase):
    def test_what_was_handed_in_is_as_it_was(self):
        for kind, size, count, hues in DYED:
            for told in ALL_TOLD:
                with self.subTest(told=told.__name__, kind=kind, size=size, count=count, hues=hues):
                    handed = list(hues)
                    told(kind, size, count, handed)
                    self.assertEqual(handed, hues)

    def test_what_was_handed_in_may_be_changed_later(self):
        for kind, size, count, hues in DYED:
            for told in ALL_TOLD:
                with self.subTest(told=told.__name__, kind=kind, size=size, count=count, hues=hues):
                    expected = told(kind, size, count, list(hues))
                    handed = list(hues)
                    before = told(kind, size, count, handed)
                    handed.reverse()
                    handed.append(100)
                    self.assertEqual(before, expected)
                    self.assertEqual(told(kind, size, count, list(hues)), expected)

    def test_one_list_handed_in_twice_is_looked_at_anew(self):
        hues = [0, 1, 1, 0]
        self.assertIs(is_free("sums", 4, 2, hues), True)
        hues[1] = 0
        self.assertEqual(one_hued("sums", 4, 2, hues), [(0, 0, 1), (1, 1, 3)])
        self.assertIs(is_free("sums", 4, 2, hues), False)
        self.assertEqual(exchanged("sums", 4, 2, hues, 0, 1), [1, 1, 0, 1])

    def test_what_the_asker_changes_changes_nothing_told_next(self):
        for kind, size, count, hues in DYED:
            for told in [one_hued, exchange_first, exchange_none]:
                with self.subTest(told=told.__name__, kind=kind, size=size, count=count, hues=hues):
                    kept = told(kind, size, count, hues)
                    expected = list(kept)
                    changed = told(kind, size, count, hues)
                    self.assertIsNot(changed, kept)
                    changed.reverse()
                    changed.append("more")
                    self.assertEqual(kept, expected)
                    self.assertEqual(told(kind, size, count, hues), expected)

    def test_a_list_told_is_never_the_one_handed_in(self):
        for kind, size, count, hues in DYED:
            self.assertIsNot(one_hued(kind, size, count, hues), hues)
            for one, other in each_two_hues(count):
                self.assertIsNot(exchanged(kind, size, count, hues, one, other), hues)


class TestRefusals(unittest.TestCase):
    def check_refused(self, error, kind, size, count, hues):
        for told in ALL_TOLD:
            with self.subTest(told=told.__name__, kind=kind, size=size, count=count, hues=hues):
                handed = list(hues)
                with self.assertRaises(error) as caught:
                    told(kind, size, count, handed)
                self.assertIs(type(caught.exception), error)
                self.assertEqual(handed, hues)

    def check_exchange_refused(self, error, asked, one, other):
        with self.subTest(asked=asked, one=one, other=other):
            with self.assertRaises(error) as caught:
                exchanged(*asked, one, other)
            self.assertIs(type(caught.exception), error)

    def test_another_text(self):
        for kind in OTHER_KINDS:
            self.check_refused(NoKind, kind, 3, 2, [0, 1, 0])
            self.check_refused(NoKind, kind, 0, 1, [])

    def test_another_size(self):
        for kind in GREATEST:
            for size in other_sizes(kind):
                for hues in [[], [0] * number_of_things(kind, max(size, 0)), [0] * 36, [0] * 40]:
                    self.check_refused(NoSize, kind, size, 2, hues[:100])

    def test_another_count(self):
        for kind, size, count, hues in DYED:
            for other in OTHER_COUNTS:
                self.check_refused(NoHues, kind, size, other, hues)

    def test_another_length(self):
        for kind, size, count, hues in DYED:
            self.check_refused(NoDyeing, kind, size, count, hues + [0])
            self.check_refused(NoDyeing, kind, size, count, hues + [0] * (100 - len(hues)))
            if hues:
                self.check_refused(NoDyeing, kind, size, count, hues[:-1])

    def test_another_hue(self):
        for kind, size, count in ASKED:
            length = number_of_things(kind, size)
            for place in {0, length // 2, length - 1} & set(range(length)):
                for hue in [-100, -1, count, 100]:
                    hues = [0] * length
                    hues[place] = hue
                    self.check_refused(NoDyeing, kind, size, count, hues)

    def test_other_hues_to_be_exchanged(self):
        for kind, size, count in ASKED:
            asked = (kind, size, count, [0] * number_of_things(kind, size))
            for hue in [-100, -1, count, 100]:
                self.check_exchange_refused(NoHues, asked, hue, 0)
                self.check_exchange_refused(NoHues, asked, count - 1, hue)
                self.check_exchange_refused(NoHues, asked, hue, hue)

    # The faults in the order in which they are due, each as the arguments that it puts in the place of good ones.
    FAULTS = [
        (NoKind, [{"kind": kind} for kind in OTHER_KINDS]),
        (NoSize, [{"size": size} for size in [-100, -1, 41, 100]]),
        (NoHues, [{"count": count} for count in OTHER_COUNTS]),
        (NoDyeing, [{"hues": []}, {"hues": [0] * 4}, {"hues": [0, -1, 0]}, {"hues": [0, 0, 3]}, {"hues": [100] * 3}]),
        (NoHues, [{"one": hue} for hue in [-100, -1, 3, 100]] + [{"other": hue} for hue in [-100, -1, 3, 100]]),
    ]

    def check_first_of(self, error, faults):
        given = {"kind": "sums", "size": 3, "count": 3, "hues": [0, 1, 2], "one": 0, "other": 1}
        for fault in faults:
            given.update(fault)
        arguments = list(given.values())
        with self.subTest(given=given):
            with self.assertRaises(error) as caught:
                exchanged(*arguments)
            self.assertIs(type(caught.exception), error)
            if not {"one", "other"} & set().union(*faults):
                self.check_refused(error, *arguments[:4])

    def test_of_two_refusals_the_first_one_told(self):
        for (error, ones), (later, others) in combinations(self.FAULTS, 2):
            for one in ones:
                for other in others:
                    self.check_first_of(error, [one, other])

    def test_of_more_refusals_the_first_one_told(self):
        for many in [3, 4, 5]:
            for chosen in combinations(self.FAULTS, many):
                self.check_first_of(chosen[0][0], [faults[0] for error, faults in chosen])
                self.check_first_of(chosen[0][0], [faults[-1] for error, faults in chosen])

    def test_a_refusal_changes_nothing_told_next(self):
        for hues in [[0, 0], [0, 1, 2], [0, -1, 0]]:
            self.check_refused(NoDyeing, "sums", 3, 2, hues)
            self.assertEqual(one_hued("sums", 3, 2, [0, 0, 1]), [(0, 0, 1)])
            self.check_refused(NoDyeing, "sums", 3, 2, hues)


if __name__ == "__main__":
    unittest.main()
