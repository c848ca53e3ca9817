import unittest

from keenscale.errors import BadLine, BadSay, KeenError, NoSay, NoWidth
from keenscale.judge import Judge
from keenscale.lines import read
from keenscale.marks import marks_of, misfit
from tests.helper import BIG, CALLS

FOUR = (BadSay, NoSay, NoWidth, BadLine)
WRONG_WIDTHS = (0, -1, -2, -1000, 1001, 1002, 10 ** 39, BIG, -BIG)


class ErrorClasses(unittest.TestCase):
    def test_any_refusal_is_a_value_error(self):
        self.assertEqual(KeenError.__bases__, (ValueError,))

    def test_each_stands_straight_under_keen_error(self):
        for kind in FOUR:
            with self.subTest(kind=kind.__name__):
                self.assertEqual(kind.__bases__, (KeenError,))

    def test_the_four_are_four(self):
        self.assertEqual(len(set(FOUR)), 4)


class BadSayings(unittest.TestCase):
    def refused(self, many, pairs):
        for name, call in CALLS.items():
            with self.subTest(call=name, many=many, pairs=pairs):
                with self.assertRaises(BadSay):
                    call(many, pairs)

    def test_a_thing_that_is_not_there_at_either_place(self):
        for many in (1, 2, 5, 12):
            for stranger in (-1, -many, -many - 1, many, many + 1, 10 ** 39, BIG, -BIG):
                self.refused(many, [(stranger, 0)])
                self.refused(many, [(0, stranger)])
                self.refused(many, [(stranger, stranger)])

    def test_wherever_it_stands_among_the_others(self):
        others = [(0, 1), (1, 2), (0, 2)]
        for place in range(4):
            for bad in ((3, 0), (0, 3), (-1, 0), (0, -1)):
                self.refused(3, others[:place] + [bad] + others[place:])

    def test_ahead_of_what_else_could_be_told(self):
        self.refused(4, [(0, 0), (1, 2), (2, 1), (4, 0)])
        self.refused(4, [(0, 1), (2, 3), (0, -1)])
        self.refused(12, [(0, 1)] * 199 + [(11, 12)])

    def test_the_last_thing_is_there(self):
        for many in (1, 2, 12):
            for name, call in CALLS.items():
                with self.subTest(call=name, many=many):
                    call(many, [(many - 1, 0), (0, many - 1), (many - 1, many - 1)])


class Widths(unittest.TestCase):
    def test_below_1_and_above_1000(self):
        for call in (marks_of, misfit):
            for width in WRONG_WIDTHS:
                for many, pairs in ((1, []), (1, [(0, 0)]), (3, [(0, 1)]), (12, [(0, 11), (11, 0)])):
                    with self.subTest(call=call.__name__, width=width, pairs=pairs):
                        with self.assertRaises(NoWidth):
                            call(many, pairs, width)

    def test_1_and_1000_are_widths(self):
        for width in (1, 2, 999, 1000):
            self.assertEqual(marks_of(2, [(0, 1)], width), [width, 0])
            self.assertIsNone(misfit(2, [(0, 1)], width))

    def test_behind_sayings_that_are_refused(self):
        for call in (marks_of, misfit):
            for width in WRONG_WIDTHS:
                for pairs in ([(0, 2)], [(-1, 0)], [(0, 1), (BIG, 0)]):
                    with self.subTest(call=call.__name__, width=width, pairs=pairs):
                        with self.assertRaises(BadSay):
                            call(2, pairs, width)


class Taken(unittest.TestCase):
    def refusals(self):
        calls = [(BadSay, call, (2, [(-1, 0)])) for call in CALLS.values()]
        judge = Judge(2)
        calls += [(BadSay, judge.say, (0, 2)), (BadSay, judge.unsay, (2, 0)), (NoSay, judge.unsay, (1, 0))]
        calls += [(NoWidth, call, (2, [(0, 1)], width)) for call in (marks_of, misfit) for width in (0, 1001)]
        calls += [(BadLine, read, (text,)) for text in ("", "3", "0:", "13:", "3: 3>0", "3:" + " 0>1" * 201)]
        return calls

    def test_by_its_own_name_and_those_above_it(self):
        for own, call, given in self.refusals():
            for kind in (own, KeenError, ValueError):
                with self.subTest(own=own.__name__, kind=kind.__name__, given=given):
                    with self.assertRaises(kind):
                        call(*given)

    def test_as_none_of_the_other_three(self):
        for own, call, given in self.refusals():
            with self.subTest(own=own.__name__, given=given):
                with self.assertRaises(own) as taken:
                    call(*given)
                others = tuple(kind for kind in FOUR if kind is not own)
                self.assertEqual(len(others), 3)
                self.assertNotIsInstance(taken.exception, others)


if __name__ == "__main__":
    unittest.main()
