import unittest
from itertools import product

from keenscale.spans import spans, two_pairs
from tests.helper import (
    draws, drawn_sayings, drawn_spans, every_saying, every_sayings, falling, has_round, has_two_pairs, is_round,
    is_two_pairs, mixed, places, told_by, whole,
)


def least_places(many):
    """For all sayings that any spans tell, how few places do. No spans of so many things need more than many."""
    least = {}
    for most in range(1, many + 1):
        kinds = [(low, high) for low in range(most) for high in range(low, most)]
        for tried in product(kinds, repeat=many):
            least.setdefault(frozenset(told_by(tried)), most)
    return least


class TwoPairs(unittest.TestCase):
    def look(self, many, pairs):
        four = two_pairs(many, list(pairs))
        if has_two_pairs(many, pairs):
            self.assertIsInstance(four, tuple)
            self.assertEqual(len(four), 4)
            self.assertTrue(all(whole(thing) for thing in four), four)
            self.assertTrue(is_two_pairs(set(pairs), four), (many, pairs, four))
        else:
            self.assertIsNone(four, (many, pairs))

    def test_none_without_two_sayings(self):
        for many in (1, 2, 12):
            self.assertIsNone(two_pairs(many, []))
            self.assertIsNone(two_pairs(many, [(0, many - 1)] * 200))

    def test_four_things(self):
        self.assertIn(two_pairs(4, [(0, 1), (2, 3)]), [(0, 1, 2, 3), (2, 3, 0, 1)])
        self.assertIsNone(two_pairs(4, [(0, 1), (2, 3), (0, 3)]))
        self.assertIsNone(two_pairs(4, [(0, 1), (2, 3), (2, 1)]))

    def test_some_may_be_the_same(self):
        self.assertIn(two_pairs(3, [(0, 1), (1, 2)]), [(0, 1, 1, 2), (1, 2, 0, 1)])
        self.assertIsNone(two_pairs(3, [(0, 1), (1, 2), (0, 2)]))
        self.assertIn(two_pairs(2, [(0, 1), (1, 0)]), [(0, 1, 1, 0), (1, 0, 0, 1)])
        self.assertIn(two_pairs(2, [(0, 0), (1, 1)]), [(0, 0, 1, 1), (1, 1, 0, 0)])

    def test_a_thing_better_than_itself(self):
        self.assertIsNone(two_pairs(1, [(0, 0)]))
        self.assertIsNone(two_pairs(12, every_saying(12)))
        self.look(3, [(0, 0), (1, 2)])

    def test_two_hundred_sayings(self):
        self.assertIsNone(two_pairs(12, (falling(12) * 4)[:200]))
        self.look(12, ([pair for pair in falling(12) if pair != (11, 0)] * 4)[:200])
        self.look(4, [(0, 1)] * 199 + [(2, 3)])

    def test_all_sayings_of_up_to_three_things(self):
        for many in (1, 2, 3):
            for pairs in every_sayings(many):
                self.look(many, pairs)
                self.look(many, pairs[::-1])

    def test_sayings_of_more_things(self):
        for many, times in ((4, 100), (6, 40), (9, 15), (12, 8)):
            for pairs in drawn_sayings(200 + many, many, times):
                self.look(many, pairs)


class Spans(unittest.TestCase):
    def look_at_spans(self, many, pairs, told):
        self.assertIsInstance(told, list)
        self.assertEqual(len(told), many)
        for span in told:
            self.assertIsInstance(span, tuple)
            low, high = span
            self.assertTrue(whole(low) and whole(high), told)
            self.assertTrue(0 <= low <= high, told)
        self.assertEqual(told_by(told), set(pairs), (many, told))

    def look(self, many, pairs):
        answer = spans(many, list(pairs))
        self.assertIsInstance(answer, tuple)
        name, told = answer
        if has_round(many, pairs):
            self.assertEqual(name, "round", (many, pairs))
            self.assertTrue(is_round(pairs, told), (many, pairs, told))
        elif has_two_pairs(many, pairs):
            self.assertEqual(name, "pairs", (many, pairs))
            self.assertIsInstance(told, tuple)
            self.assertTrue(is_two_pairs(set(pairs), told), (many, pairs, told))
        else:
            self.assertEqual(name, "spans", (many, pairs))
            self.look_at_spans(many, pairs, told)
            # A thing's low alone settles which things it is better than: as many lows as there are such.
            beaten = {tuple((one, other) in set(pairs) for other in range(many)) for one in range(many)}
            self.assertEqual(places(told), len(beaten), (many, pairs, told))
        return name

    def test_no_saying(self):
        for many in (1, 2, 12):
            self.assertEqual(spans(many, []), ("spans", [(0, 0)] * many))

    def test_one_thing_better_than_itself(self):
        self.assertEqual(spans(1, [(0, 0)]), ("round", [0]))

    def test_two_things_each_better_than_the_other(self):
        name, told = spans(2, [(0, 1), (1, 0)])
        self.assertEqual((name, sorted(told)), ("round", [0, 1]))

    def test_one_better_than_the_other(self):
        self.assertEqual(spans(2, [(0, 1)]), ("spans", [(1, 1), (0, 0)]))
        self.assertEqual(spans(2, [(1, 0)]), ("spans", [(0, 0), (1, 1)]))

    def test_a_long_span_beside_three_in_a_row(self):
        pairs = [(0, 1), (1, 2), (0, 2)]
        self.assertEqual(spans(4, pairs), ("spans", [(2, 2), (1, 1), (0, 0), (0, 2)]))

    def test_twelve_in_a_row(self):
        want = ("spans", [(thing, thing) for thing in range(12)])
        self.assertEqual(spans(12, falling(12)), want)
        self.assertEqual(spans(12, (falling(12) * 4)[:200]), want)
        self.assertEqual(spans(12, (falling(12) * 4)[199::-1]), want)

    def test_a_round_is_told_ahead_of_two_pairs(self):
        name, told = spans(5, [(0, 1), (2, 3), (4, 4)])
        self.assertEqual((name, told), ("round", [4]))
        self.assertTrue(has_two_pairs(3, [(0, 1), (1, 2), (2, 0)]))
        self.assertEqual(spans(3, [(0, 1), (1, 2), (2, 0)])[0], "round")

    def test_two_pairs_where_there_is_no_round(self):
        self.assertIn(spans(4, [(0, 1), (2, 3)]), [("pairs", (0, 1, 2, 3)), ("pairs", (2, 3, 0, 1))])
        self.assertIn(spans(3, [(0, 1), (1, 2)]), [("pairs", (0, 1, 1, 2)), ("pairs", (1, 2, 0, 1))])

    def test_two_hundred_sayings_of_all_there_are(self):
        all_of_them = every_saying(12)
        self.assertEqual(self.look(12, all_of_them + all_of_them[:56]), "round")
        self.assertEqual(self.look(3, [(0, 1)] * 199 + [(0, 2)]), "spans")

    def test_many_times_over_changes_nothing(self):
        self.assertEqual(spans(2, [(0, 1)] * 200), ("spans", [(1, 1), (0, 0)]))

    def test_as_few_places_as_any_of_all_spans(self):
        for many in (1, 2, 3, 4):
            least = least_places(many)
            for pairs in every_sayings(many):
                name, told = spans(many, pairs)
                fewest = least.get(frozenset(pairs))
                if fewest is None:
                    self.assertEqual(name, "round" if has_round(many, pairs) else "pairs", pairs)
                else:
                    self.assertEqual(name, "spans", pairs)
                    self.look_at_spans(many, pairs, told)
                    self.assertEqual(places(told), fewest, (pairs, told))

    def test_all_sayings_of_up_to_three_things(self):
        for many in (1, 2, 3):
            for pairs in every_sayings(many):
                self.look(many, pairs)
                self.look(many, pairs[::-1])

    def test_sayings_of_more_things(self):
        for many, times in ((5, 60), (7, 30), (12, 8)):
            names = [self.look(many, pairs) for pairs in drawn_sayings(300 + many, many, times)]
            self.assertEqual(set(names), {"spans", "round", "pairs"})

    def test_sayings_that_spans_tell(self):
        draw = draws(12)
        for time in range(150):
            drawn = drawn_spans(draw, 12, 1 + next(draw) % 20)
            pairs = mixed(draw, told_by(drawn))
            name, told = spans(12, pairs)
            self.assertEqual(name, "spans")
            self.look_at_spans(12, pairs, told)
            self.assertLessEqual(places(told), places(drawn))


if __name__ == "__main__":
    unittest.main()
