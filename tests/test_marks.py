import unittest
from itertools import product

from keenscale.marks import least_width, marks, marks_of, misfit, three_row
from tests.helper import (
    drawn_by_marks, drawn_of_all_kinds, draws, every_loose_sayings, every_saying, every_sayings, falling, few_things,
    has_round, has_three_row, has_two_pairs, held_up, is_misfit, is_round, is_three_row, is_two_pairs, mixed,
    told_by_marks, whole,
)


def all_least(many, width):
    """For all sayings that any marks of the width tell, the least that each mark is in any of them.

    A gap of more than the width between two marks can be drawn in to the width, and the lowest mark to 0, and the
    same is told: so no mark above (many - 1) * width needs to be tried.
    """
    least = {}
    for tried in product(range((many - 1) * width + 1), repeat=many):
        told = frozenset(told_by_marks(tried, width))
        known = least.get(told, tried)
        least[told] = tuple(min(pair) for pair in zip(known, tried))
    return least


class Looking(unittest.TestCase):
    def look_at_marks(self, many, pairs, given, width):
        self.assertIsInstance(given, list)
        self.assertEqual(len(given), many)
        self.assertTrue(all(whole(mark) and mark >= 0 for mark in given), given)
        self.assertEqual(told_by_marks(given, width), set(pairs), (many, width, given))
        self.assertEqual(sorted(held_up(many, pairs, given, width)), list(range(many)), (pairs, given, width))

    def look_at_misfit(self, pairs, walked, width):
        self.assertTrue(is_misfit(pairs, walked, width), (pairs, walked, width))
        self.assertTrue(all(whole(thing) for thing in walked), walked)

    def look_at_width(self, many, pairs, width):
        given = marks_of(many, list(pairs), width)
        walked = misfit(many, list(pairs), width)
        if given is None:
            self.look_at_misfit(pairs, walked, width)
        else:
            self.assertIsNone(walked, (many, pairs, width))
            self.look_at_marks(many, pairs, given, width)
        return given


class MarksOf(Looking):
    def test_no_saying(self):
        for many in (1, 2, 12):
            for width in (1, 2, 1000):
                self.assertEqual(marks_of(many, [], width), [0] * many)

    def test_a_thing_better_than_itself(self):
        for width in (1, 2, 1000):
            self.assertIsNone(marks_of(1, [(0, 0)], width))
            self.assertIsNone(marks_of(12, [(11, 11)], width))

    def test_two_things(self):
        for width in (1, 2, 1000):
            self.assertEqual(marks_of(2, [(0, 1)], width), [width, 0])
            self.assertEqual(marks_of(2, [(1, 0)], width), [0, width])
            self.assertIsNone(marks_of(2, [(0, 1), (1, 0)], width))

    def test_between_two_things_of_which_one_is_better(self):
        pairs = [(2, 0)]
        self.assertIsNone(marks_of(3, pairs, 1))
        self.assertEqual(marks_of(3, pairs, 2), [0, 1, 2])
        self.assertEqual(marks_of(3, pairs, 3), [0, 1, 3])
        self.assertEqual(marks_of(3, pairs, 1000), [0, 1, 1000])

    def test_twelve_in_a_row(self):
        for width in (1, 2, 1000):
            want = [thing * width for thing in range(12)]
            self.assertEqual(marks_of(12, falling(12), width), want)
            self.assertEqual(marks_of(12, (falling(12) * 4)[:200], width), want)
            self.assertEqual(marks_of(12, (falling(12) * 4)[199::-1], width), want)

    def test_many_times_over_says_no_more_than_once(self):
        self.assertEqual(marks_of(2, [(0, 1)] * 200, 5), [5, 0])
        self.assertIsNone(marks_of(2, [(0, 1)] * 199 + [(1, 0)], 5))
        self.assertEqual(marks_of(3, [(0, 1)] * 199 + [(0, 2)], 1), [1, 0, 0])

    def test_least_of_all_marks_there_are(self):
        for many, widths in ((1, (1, 2, 3)), (2, (1, 2, 3, 4)), (3, (1, 2, 3, 4, 5)), (4, (1, 2, 3, 4))):
            told = {width: all_least(many, width) for width in widths}
            for pairs in every_loose_sayings(many) if many == 4 else every_sayings(many):
                for width in widths:
                    want = told[width].get(frozenset(pairs))
                    got = marks_of(many, pairs, width)
                    self.assertEqual(got, None if want is None else list(want), (many, pairs, width))

    def test_all_sayings_of_few_things(self):
        for many, pairs in few_things():
            for width in (1, 2, 3, 1000):
                self.look_at_width(many, pairs, width)

    def test_all_sayings_of_four_things(self):
        for pairs in every_sayings(4):
            self.look_at_width(4, pairs, 2)

    def test_sayings_of_more_things(self):
        for many in (4, 6, 9, 12):
            for pairs in drawn_of_all_kinds(400 + many, many, 20):
                for width in (1, 2, 3, many, 999, 1000):
                    self.look_at_width(many, pairs, width)

    def test_no_mark_above_that_in_any_marks_drawn(self):
        for many in (3, 5, 8, 12):
            for drawn, width, pairs in drawn_by_marks(500 + many, many, 60):
                given = self.look_at_width(many, pairs, width)
                self.assertTrue(all(low <= high for low, high in zip(given, drawn)), (given, drawn, width))


class Misfit(Looking):
    def test_none_where_there_is_no_saying(self):
        for many in (1, 2, 12):
            for width in (1, 2, 1000):
                self.assertIsNone(misfit(many, [], width))

    def test_a_thing_better_than_itself(self):
        for width in (1, 1000):
            self.assertEqual(misfit(1, [(0, 0)], width), [0])
            self.look_at_misfit([(11, 11)], misfit(12, [(11, 11)], width), width)

    def test_two_things_each_better_than_the_other(self):
        for width in (1, 1000):
            self.assertEqual(sorted(misfit(2, [(0, 1), (1, 0)], width)), [0, 1])

    def test_a_width_too_small(self):
        walked = misfit(3, [(2, 0)], 1)
        self.assertIn(walked, [[2, 0, 1], [0, 1, 2], [1, 2, 0]])
        self.look_at_misfit([(2, 0)], walked, 1)
        self.assertIsNone(misfit(3, [(2, 0)], 2))

    def test_worth_nothing_together_is_no_misfit(self):
        # From 0 by five sayings up and six things beside one another down: of the width 6 worth 0.
        pairs = mixed(draws(3), told_by_marks(range(11), 6))
        self.assertIsNone(misfit(11, pairs, 6))
        self.look_at_misfit(pairs, misfit(11, pairs, 5), 5)
        self.assertEqual(len(misfit(11, pairs, 5)), 11)

    def test_each_thing_once_also_where_more_misfits_meet(self):
        for many in (3, 6, 12):
            for pairs in (every_saying(many), [(one, (one + 1) % many) for one in range(many)]):
                for width in (1, 2, 1000):
                    self.look_at_misfit(pairs, misfit(many, pairs, width), width)

    def test_sayings_of_more_things(self):
        for many in (5, 12):
            for pairs in drawn_of_all_kinds(600 + many, many, 25):
                for width in (1, 2, 5, 1000):
                    self.look_at_width(many, pairs, width)


class LeastWidth(Looking):
    def look(self, many, pairs):
        width = least_width(many, list(pairs))
        if width is None:
            self.assertIsNone(marks_of(many, pairs, many), (many, pairs))
            self.look_at_misfit(pairs, misfit(many, pairs, many), many)
            self.look_at_misfit(pairs, misfit(many, pairs, 1000), 1000)
            return None
        self.assertTrue(whole(width) and 1 <= width <= many, (many, pairs, width))
        self.assertIsNotNone(self.look_at_width(many, pairs, width))
        if width > 1:
            self.look_at_misfit(pairs, misfit(many, pairs, width - 1), width - 1)
        return width

    def test_no_saying(self):
        for many in (1, 2, 12):
            self.assertEqual(least_width(many, []), 1)

    def test_a_thing_better_than_itself(self):
        self.assertIsNone(least_width(1, [(0, 0)]))
        self.assertIsNone(least_width(12, [(0, 1), (11, 11)]))

    def test_small_ones(self):
        self.assertEqual(least_width(2, [(0, 1)]), 1)
        self.assertEqual(least_width(3, [(0, 1)]), 2)
        self.assertEqual(least_width(12, falling(12)), 1)
        self.assertIsNone(least_width(2, [(0, 1), (1, 0)]))
        self.assertIsNone(least_width(4, [(0, 1), (2, 3)]))
        self.assertIsNone(least_width(4, [(0, 1), (1, 2), (0, 2)]))

    def test_greater_ones(self):
        for width in (1, 2, 3, 4, 5, 6):
            many = 2 * width - 1
            pairs = mixed(draws(width), told_by_marks(range(many), width))
            self.assertEqual(self.look(many, pairs), width)
            self.assertEqual(marks(many, pairs), ("marks", width, list(range(many))))
        self.assertEqual(self.look(12, sorted(told_by_marks(range(12), 6))), 6)

    def test_many_times_over_and_two_hundred_sayings(self):
        self.assertEqual(least_width(3, [(0, 1)] * 200), 2)
        self.assertEqual(least_width(3, [(0, 1)] * 199 + [(0, 2)]), 1)
        self.assertEqual(least_width(12, (falling(12) * 4)[:200]), 1)
        self.assertIsNone(least_width(12, (every_saying(12) * 2)[:200]))

    def test_least_of_all_widths_there_are(self):
        told = {many: [all_least(many, width) for width in range(1, many + 1)] for many in (1, 2, 3, 4)}
        for many, pairs in few_things():
            fits = [frozenset(pairs) in least for least in told[many]]
            want = fits.index(True) + 1 if True in fits else None
            self.assertEqual(least_width(many, pairs), want, (many, pairs))
            self.assertEqual(self.look(many, pairs), want)

    def test_sayings_of_more_things(self):
        for many in (5, 7, 12):
            found = {self.look(many, pairs) for pairs in drawn_of_all_kinds(700 + many, many, 25)}
            self.assertLessEqual({None, 1, 2, 3}, found)

    def test_no_greater_than_the_width_of_marks_drawn(self):
        for many in (3, 5, 8, 12):
            for drawn, width, pairs in drawn_by_marks(800 + many, many, 40):
                self.assertLessEqual(self.look(many, pairs), width)


class ThreeRow(Looking):
    def look(self, many, pairs):
        four = three_row(many, list(pairs))
        if has_three_row(many, pairs):
            self.assertIsInstance(four, tuple)
            self.assertEqual(len(four), 4)
            self.assertTrue(all(whole(thing) for thing in four), four)
            self.assertTrue(is_three_row(set(pairs), four), (many, pairs, four))
        else:
            self.assertIsNone(four, (many, pairs))

    def test_none_without_two_sayings(self):
        for many in (1, 2, 12):
            self.assertIsNone(three_row(many, []))
        self.assertIsNone(three_row(12, [(0, 11)] * 200))

    def test_four_things(self):
        row = [(0, 1), (1, 2), (0, 2)]
        self.assertEqual(three_row(4, row), (0, 1, 2, 3))
        self.assertIsNone(three_row(4, row + [(0, 3)]))
        self.assertIsNone(three_row(4, row + [(3, 2)]))
        self.assertEqual(three_row(4, row + [(1, 3)]), (0, 1, 2, 3))
        self.assertEqual(three_row(4, row + [(3, 1)]), (0, 1, 2, 3))

    def test_some_may_be_the_same(self):
        self.assertIn(three_row(3, [(0, 1), (1, 2)]), [(0, 1, 2, 0), (0, 1, 2, 2)])
        self.assertIsNone(three_row(3, [(0, 1), (1, 2), (0, 2)]))
        self.look(2, [(0, 1), (1, 0)])
        self.assertEqual(three_row(2, [(0, 0)]), (0, 0, 0, 1))

    def test_a_thing_better_than_itself(self):
        self.assertIsNone(three_row(1, [(0, 0)]))
        self.assertIsNone(three_row(12, every_saying(12)))
        self.look(12, [(11, 11)])

    def test_two_hundred_sayings(self):
        self.assertIsNone(three_row(12, (falling(12) * 4)[:200]))
        self.look(12, ([pair for pair in falling(12) if pair != (11, 0)] * 4)[:200])
        self.look(4, [(0, 1)] * 198 + [(1, 2), (0, 2)])

    def test_all_sayings_of_few_things(self):
        for many, pairs in few_things():
            self.look(many, pairs)

    def test_sayings_of_more_things(self):
        for many, times in ((4, 60), (6, 30), (9, 12), (12, 6)):
            for pairs in drawn_of_all_kinds(900 + many, many, times):
                self.look(many, pairs)


class Marks(Looking):
    def look(self, many, pairs):
        answer = marks(many, list(pairs))
        self.assertIsInstance(answer, tuple)
        name, told = answer[0], answer[1]
        if name == "marks":
            self.assertEqual(len(answer), 3)
            self.assertTrue(whole(told))
            self.look_at_marks(many, pairs, answer[2], told)
            self.assertEqual(told, least_width(many, pairs))
            self.assertEqual(answer[2], marks_of(many, pairs, told))
        else:
            self.assertEqual(len(answer), 2)
            self.assertIsNone(least_width(many, pairs), (many, pairs))
            self.look_at_what_forbids(pairs, name, told)
        self.assertEqual(name, self.kind(many, pairs), (many, pairs))
        return name

    def look_at_what_forbids(self, pairs, name, told):
        if name == "round":
            self.assertTrue(is_round(pairs, told), (pairs, told))
        else:
            self.assertIsInstance(told, tuple)
            self.assertEqual(len(told), 4)
            forbids = {"pairs": is_two_pairs, "row": is_three_row}[name]
            self.assertTrue(forbids(set(pairs), told), (pairs, name, told))

    def kind(self, many, pairs):
        if has_round(many, pairs):
            return "round"
        if has_two_pairs(many, pairs):
            return "pairs"
        return "row" if has_three_row(many, pairs) else "marks"

    def test_no_saying(self):
        for many in (1, 2, 12):
            self.assertEqual(marks(many, []), ("marks", 1, [0] * many))

    def test_a_thing_better_than_itself(self):
        self.assertEqual(marks(1, [(0, 0)]), ("round", [0]))
        self.assertEqual(marks(12, [(11, 11)]), ("round", [11]))

    def test_told_by_marks(self):
        self.assertEqual(marks(2, [(0, 1)]), ("marks", 1, [1, 0]))
        self.assertEqual(marks(3, [(0, 2)]), ("marks", 2, [2, 1, 0]))
        self.assertEqual(marks(12, falling(12)), ("marks", 1, list(range(12))))

    def test_what_forbids_in_its_order(self):
        row = [(0, 1), (1, 2), (0, 2)]
        self.assertEqual(marks(4, row), ("row", (0, 1, 2, 3)))
        beside = [(3, 4)]
        self.assertTrue(has_three_row(5, row + beside))
        self.assertEqual(self.look(5, row + beside), "pairs")
        self.assertEqual(marks(6, row + beside + [(5, 5)]), ("round", [5]))
        self.assertEqual(self.look(3, [(0, 1), (1, 2), (2, 0)]), "round")

    def test_many_times_over_and_two_hundred_sayings(self):
        self.assertEqual(marks(2, [(0, 1)] * 200), ("marks", 1, [1, 0]))
        self.assertEqual(marks(12, (falling(12) * 4)[199::-1]), ("marks", 1, list(range(12))))
        self.assertEqual(self.look(12, (every_saying(12) * 2)[:200]), "round")
        self.assertEqual(self.look(4, [(0, 1)] * 199 + [(2, 3)]), "pairs")
        self.assertEqual(self.look(4, [(0, 1), (1, 2)] * 99 + [(0, 2), (0, 2)]), "row")

    def test_all_sayings_of_few_things(self):
        for many, pairs in few_things():
            self.look(many, pairs)

    def test_the_order_of_the_sayings_is_nothing(self):
        draw = draws(9)
        for many in (4, 8, 12):
            for pairs in drawn_of_all_kinds(950 + many, many, 10):
                told = marks(many, mixed(draw, pairs + pairs[:3]))
                if told[0] == "marks":
                    self.assertEqual(told, marks(many, pairs))
                else:
                    self.assertEqual(told[0], marks(many, pairs)[0])

    def test_sayings_of_more_things(self):
        for many, times in ((5, 40), (7, 20), (12, 6)):
            names = [self.look(many, pairs) for pairs in drawn_of_all_kinds(1000 + many, many, times)]
            self.assertEqual(set(names), {"marks", "round", "pairs", "row"})


if __name__ == "__main__":
    unittest.main()
