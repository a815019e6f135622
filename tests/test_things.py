import unittest

from picked import GREATEST, OTHER_KINDS, number_of_things, other_sizes, picked_triples

from onehue.errors import NoKind, NoSize
from onehue.things import things, triples

ALL_SIZES = [(kind, size) for kind in GREATEST for size in range(GREATEST[kind] + 1)]


class TestThings(unittest.TestCase):
    def test_counts_at_all_sizes(self):
        for kind, size in ALL_SIZES:
            with self.subTest(kind=kind, size=size):
                told = things(kind, size)
                self.assertEqual(told, number_of_things(kind, size))
                self.assertIs(type(told), int)

    def test_counts_by_hand(self):
        self.assertEqual([things("pairs", size) for size in range(10)], [0, 0, 1, 3, 6, 10, 15, 21, 28, 36])
        for kind in ["sums", "steps"]:
            self.assertEqual([things(kind, size) for size in [0, 1, 2, 3, 17, 40]], [0, 1, 2, 3, 17, 40])


class TestTriples(unittest.TestCase):
    def test_lists_at_all_sizes(self):
        for kind, size in ALL_SIZES:
            with self.subTest(kind=kind, size=size):
                self.assertEqual(triples(kind, size), picked_triples(kind, size))

    def test_pairs_by_hand(self):
        for size in [0, 1, 2]:
            self.assertEqual(triples("pairs", size), [])
        self.assertEqual(triples("pairs", 3), [(0, 1, 2)])
        self.assertEqual(triples("pairs", 4), [(0, 1, 3), (0, 2, 4), (1, 2, 5), (3, 4, 5)])
        self.assertEqual(len(triples("pairs", 9)), 84)

    def test_sums_by_hand(self):
        for size in [0, 1]:
            self.assertEqual(triples("sums", size), [])
        self.assertEqual(triples("sums", 2), [(0, 0, 1)])
        self.assertEqual(triples("sums", 3), [(0, 0, 1), (0, 1, 2)])
        self.assertEqual(triples("sums", 5), [(0, 0, 1), (0, 1, 2), (0, 2, 3), (0, 3, 4), (1, 1, 3), (1, 2, 4)])
        self.assertEqual(len(triples("sums", 40)), 400)

    def test_steps_by_hand(self):
        for size in [0, 1, 2]:
            self.assertEqual(triples("steps", size), [])
        self.assertEqual(triples("steps", 3), [(0, 1, 2)])
        self.assertEqual(triples("steps", 5), [(0, 1, 2), (0, 2, 4), (1, 2, 3), (2, 3, 4)])
        self.assertEqual(len(triples("steps", 40)), 380)

    def test_form_at_all_sizes(self):
        for kind, size in ALL_SIZES:
            with self.subTest(kind=kind, size=size):
                told = triples(kind, size)
                self.assertIs(type(told), list)
                for triple in told:
                    self.check_triple(triple, things(kind, size))
                self.assertTrue(all(one < other for one, other in zip(told, told[1:])))

    def check_triple(self, triple, count):
        self.assertIs(type(triple), tuple)
        self.assertEqual([type(thing) for thing in triple], [int, int, int])
        self.assertEqual(list(triple), sorted(triple))
        self.assertTrue(0 <= triple[0] and triple[2] < count)

    def test_one_thing_stands_twice_in_sums_alone(self):
        for kind, size in ALL_SIZES:
            with self.subTest(kind=kind, size=size):
                twice = [triple for triple in triples(kind, size) if len(set(triple)) < 3]
                doubles = [(k - 1, k - 1, 2 * k - 1) for k in range(1, size // 2 + 1)] if kind == "sums" else []
                self.assertEqual(twice, doubles)

    def test_what_the_asker_changes_changes_nothing_told_next(self):
        for kind, size in ALL_SIZES:
            with self.subTest(kind=kind, size=size):
                kept = triples(kind, size)
                changed = triples(kind, size)
                self.assertIsNot(kept, changed)
                changed.reverse()
                changed.append("more")
                self.assertEqual(kept, picked_triples(kind, size))
                self.assertEqual(triples(kind, size), kept)
                changed.clear()
                self.assertEqual(triples(kind, size), kept)


class TestRefusals(unittest.TestCase):
    def check_refused(self, error, kind, size):
        for told in [things, triples]:
            with self.subTest(told=told.__name__, kind=kind, size=size):
                with self.assertRaises(error) as caught:
                    told(kind, size)
                self.assertIs(type(caught.exception), error)

    def test_another_text(self):
        for kind in OTHER_KINDS:
            for size in [0, 3, 9]:
                self.check_refused(NoKind, kind, size)

    def test_another_size(self):
        for kind in GREATEST:
            for size in other_sizes(kind):
                self.check_refused(NoSize, kind, size)

    def test_another_text_and_another_size_at_once(self):
        for kind in OTHER_KINDS:
            for size in [-100, -1, 10, 41, 100]:
                self.check_refused(NoKind, kind, size)

    def test_a_refusal_changes_nothing_told_next(self):
        self.check_refused(NoKind, "other", 4)
        self.check_refused(NoSize, "pairs", 10)
        self.assertEqual(triples("pairs", 3), [(0, 1, 2)])
        self.check_refused(NoKind, "other", 4)
        self.check_refused(NoSize, "pairs", 10)


if __name__ == "__main__":
    unittest.main()
