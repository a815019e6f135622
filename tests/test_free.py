import unittest
from itertools import combinations

from picked import (
    GREATEST, OTHER_COUNTS, OTHER_KINDS, all_free, first_free_counted_up, number_of_things, other_sizes,
)

from onehue.dyeings import exchanged, is_free
from onehue.errors import NoHues, NoKind, NoSize, TooMuch
from onehue.free import first_free, first_size, how_many

COUNTS = [1, 2, 3]
FIRST_SIZES = {
    ("pairs", 1): 3, ("pairs", 2): 6,
    ("sums", 1): 2, ("sums", 2): 5, ("sums", 3): 14,
    ("steps", 1): 3, ("steps", 2): 9,
}
WITH_FIFTEEN = [("pairs", 6), ("sums", 15), ("steps", 15)]


def sizes_of_at_most(most):
    return [(kind, size) for kind in GREATEST for size in range(16) if number_of_things(kind, size) <= most]


FEW_ASKED = [(kind, size, count) for kind, size in sizes_of_at_most(8) for count in COUNTS]
FREE_ONES = {asked: all_free(*asked) for asked in FEW_ASKED}
FIRST_FREE_ASKED = [(kind, size, count) for kind, size in sizes_of_at_most(15) for count in COUNTS]


class TestFirstFree(unittest.TestCase):
    def test_at_most_eight_things_against_all_dyeings(self):
        for asked in FEW_ASKED:
            with self.subTest(asked=asked):
                self.assertEqual(first_free(*asked), min(FREE_ONES[asked], default=None))

    def test_at_most_fifteen_things_against_counting_up(self):
        for asked in FIRST_FREE_ASKED:
            with self.subTest(asked=asked):
                self.assertEqual(first_free(*asked), first_free_counted_up(*asked))

    def test_fifteen_things_with_one_and_two_hues_against_all_dyeings(self):
        for kind, size in WITH_FIFTEEN:
            for count in [1, 2]:
                with self.subTest(kind=kind, size=size, count=count):
                    self.assertEqual(all_free(kind, size, count), [])
                    self.assertIsNone(first_free(kind, size, count))

    def test_fifteen_things_with_three_hues(self):
        self.assertEqual(first_free("pairs", 6, 3), [0, 0, 0, 0, 0, 1, 1, 2, 2, 2, 1, 2, 2, 1, 1])
        self.assertIsNone(first_free("sums", 15, 3))
        self.assertEqual(first_free("steps", 15, 3), [0, 0, 1, 0, 0, 1, 1, 2, 2, 0, 0, 1, 0, 0, 1])

    def test_by_hand(self):
        self.assertEqual(first_free("pairs", 3, 2), [0, 0, 1])
        self.assertEqual(first_free("pairs", 4, 2), [0, 0, 1, 1, 0, 0])
        self.assertEqual(first_free("sums", 1, 3), [0])
        self.assertEqual(first_free("sums", 4, 2), [0, 1, 1, 0])
        self.assertEqual(first_free("steps", 2, 1), [0, 0])
        self.assertEqual(first_free("steps", 8, 2), [0, 0, 1, 1, 0, 0, 1, 1])
        for kind, size in [("pairs", 6), ("sums", 5), ("steps", 9)]:
            self.assertIsNone(first_free(kind, size, 2))

    def test_no_things(self):
        for kind, size in [("pairs", 0), ("pairs", 1), ("sums", 0), ("steps", 0)]:
            for count in COUNTS:
                with self.subTest(kind=kind, size=size, count=count):
                    self.assertEqual(first_free(kind, size, count), [])
                    self.assertEqual(how_many(kind, size, count), 1)

    def test_form(self):
        for kind, size, count in FIRST_FREE_ASKED:
            with self.subTest(kind=kind, size=size, count=count):
                told = first_free(kind, size, count)
                if told is not None:
                    self.assertIs(type(told), list)
                    self.assertEqual({type(hue) for hue in told} - {int}, set())
                    self.assertEqual(len(told), number_of_things(kind, size))
                    self.assertIs(is_free(kind, size, count, told), True)

    def test_it_does_not_stand_behind_itself_exchanged(self):
        for kind, size, count in FIRST_FREE_ASKED:
            told = first_free(kind, size, count)
            for one, other in combinations(range(count), 2):
                with self.subTest(kind=kind, size=size, count=count, one=one, other=other):
                    if told is not None:
                        self.assertLessEqual(told, exchanged(kind, size, count, told, one, other))

    def test_what_the_asker_changes_changes_nothing_told_next(self):
        for kind, size, count in FIRST_FREE_ASKED:
            kept = first_free(kind, size, count)
            if kept is not None:
                with self.subTest(kind=kind, size=size, count=count):
                    expected = list(kept)
                    changed = first_free(kind, size, count)
                    self.assertIsNot(changed, kept)
                    changed.reverse()
                    changed.append(100)
                    self.assertEqual(kept, expected)
                    self.assertEqual(first_free(kind, size, count), expected)
                    changed.clear()
                    self.assertEqual(first_free(kind, size, count), expected)


class TestHowMany(unittest.TestCase):
    def test_at_most_eight_things_against_all_dyeings(self):
        for asked in FEW_ASKED:
            with self.subTest(asked=asked):
                told = how_many(*asked)
                self.assertEqual(told, len(FREE_ONES[asked]))
                self.assertIs(type(told), int)

    def test_more_things_with_one_and_two_hues(self):
        for kind, size in [("pairs", 5), ("pairs", 6), ("sums", 9), ("sums", 12), ("steps", 9), ("steps", 12)]:
            for count in [1, 2]:
                with self.subTest(kind=kind, size=size, count=count):
                    self.assertEqual(how_many(kind, size, count), len(all_free(kind, size, count)))

    def test_fifteen_things(self):
        for kind, size in WITH_FIFTEEN:
            for count in [1, 2]:
                with self.subTest(kind=kind, size=size, count=count):
                    told = how_many(kind, size, count)
                    self.assertEqual(told, 0)
                    self.assertIs(type(told), int)

    def test_by_hand(self):
        self.assertEqual([how_many("pairs", size, 2) for size in range(7)], [1, 1, 2, 6, 18, 12, 0])
        self.assertEqual([how_many("sums", size, 2) for size in range(6)], [1, 2, 2, 4, 2, 0])
        self.assertEqual([how_many("steps", size, 2) for size in range(10)], [1, 2, 4, 6, 10, 14, 20, 16, 6, 0])
        self.assertEqual([how_many("steps", size, 1) for size in range(4)], [1, 1, 1, 0])
        self.assertEqual(how_many("pairs", 3, 3), 24)

    def test_none_just_where_there_are_nought(self):
        for asked in FEW_ASKED:
            with self.subTest(asked=asked):
                self.assertEqual(first_free(*asked) is None, how_many(*asked) == 0)


class TestFirstSize(unittest.TestCase):
    def test_each_that_is_told(self):
        for (kind, count), size in FIRST_SIZES.items():
            with self.subTest(kind=kind, count=count):
                told = first_size(kind, count)
                self.assertEqual(told, size)
                self.assertIs(type(told), int)

    def test_of_each_lesser_size_there_is_a_free_dyeing(self):
        for kind, count in FIRST_SIZES:
            for size in range(first_size(kind, count)):
                with self.subTest(kind=kind, count=count, size=size):
                    self.assertIsNotNone(first_free_counted_up(kind, size, count))
                    self.assertIsNotNone(first_free(kind, size, count))

    def test_of_the_size_itself_and_of_greater_ones_there_is_none(self):
        for kind, count in FIRST_SIZES:
            greater = [size for told, size in sizes_of_at_most(15) if told == kind and size >= first_size(kind, count)]
            self.assertIn(first_size(kind, count), greater)
            for size in greater:
                with self.subTest(kind=kind, count=count, size=size):
                    self.assertIsNone(first_free_counted_up(kind, size, count))
                    self.assertIsNone(first_free(kind, size, count))


class TestRefusals(unittest.TestCase):
    def check_refused(self, error, told, *asked):
        with self.subTest(told=told.__name__, asked=asked):
            with self.assertRaises(error) as caught:
                told(*asked)
            self.assertIs(type(caught.exception), error)

    def check_both_refused(self, error, kind, size, count):
        self.check_refused(error, first_free, kind, size, count)
        self.check_refused(error, how_many, kind, size, count)

    def test_another_text(self):
        for kind in OTHER_KINDS:
            for count in COUNTS:
                self.check_refused(NoKind, first_size, kind, count)
                for size in [0, 3, 9]:
                    self.check_both_refused(NoKind, kind, size, count)

    def test_another_size(self):
        for kind in GREATEST:
            for size in other_sizes(kind):
                for count in COUNTS:
                    self.check_both_refused(NoSize, kind, size, count)

    def test_another_count(self):
        for kind in GREATEST:
            for count in OTHER_COUNTS:
                self.check_refused(NoHues, first_size, kind, count)
                for size in [0, 1, 2, 3, 6]:
                    self.check_both_refused(NoHues, kind, size, count)

    def test_more_than_fifteen_things(self):
        for kind in GREATEST:
            for size in range(GREATEST[kind] + 1):
                if number_of_things(kind, size) > 15:
                    for count in COUNTS:
                        self.check_both_refused(TooMuch, kind, size, count)

    def test_more_than_eight_things_counted_with_three_hues(self):
        for kind in GREATEST:
            for size in range(GREATEST[kind] + 1):
                if number_of_things(kind, size) > 8:
                    self.check_refused(TooMuch, how_many, kind, size, 3)

    def test_the_first_sizes_that_are_too_much(self):
        self.assertEqual(first_size("sums", 3), 14)
        self.check_both_refused(TooMuch, "pairs", 7, 2)
        self.check_both_refused(TooMuch, "sums", 16, 2)
        self.check_both_refused(TooMuch, "steps", 16, 2)
        self.check_refused(TooMuch, how_many, "pairs", 5, 3)
        self.check_refused(TooMuch, how_many, "sums", 9, 3)
        self.check_refused(TooMuch, how_many, "steps", 9, 3)
        self.check_refused(TooMuch, first_size, "pairs", 3)
        self.check_refused(TooMuch, first_size, "steps", 3)

    def test_of_several_refusals_the_first_one_told(self):
        for kind in OTHER_KINDS:
            for count in OTHER_COUNTS:
                self.check_refused(NoKind, first_size, kind, count)
                for size in [-100, -1, 3, 16, 41, 100]:
                    self.check_both_refused(NoKind, kind, size, count)
            for size in [-100, -1, 16, 40, 41, 100]:
                self.check_both_refused(NoKind, kind, size, 3)
        for kind in GREATEST:
            for count in OTHER_COUNTS:
                for size in other_sizes(kind):
                    self.check_both_refused(NoSize, kind, size, count)
                self.check_both_refused(NoHues, kind, GREATEST[kind], count)

    def test_no_hues_before_too_much(self):
        for kind, size in [("pairs", 5), ("pairs", 7), ("sums", 9), ("sums", 16), ("steps", 9), ("steps", 16)]:
            for count in OTHER_COUNTS:
                self.check_both_refused(NoHues, kind, size, count)
        for kind in ["pairs", "steps"]:
            for count in [4, 100]:
                self.check_refused(NoHues, first_size, kind, count)

    def test_a_refusal_changes_nothing_told_next(self):
        self.check_both_refused(TooMuch, "sums", 16, 2)
        self.check_refused(TooMuch, first_size, "pairs", 3)
        self.assertEqual(first_free("sums", 4, 2), [0, 1, 1, 0])
        self.assertEqual(how_many("sums", 4, 2), 2)
        self.assertEqual(first_size("pairs", 2), 6)
        self.check_both_refused(TooMuch, "sums", 16, 2)


if __name__ == "__main__":
    unittest.main()
