import unittest

from keenscale.errors import BadLine, BadSay, KeenError, NoSay, NoWidth
from keenscale.sayings import alike, round_of
from keenscale.spans import spans, two_pairs

CALLS = (round_of, alike, two_pairs, spans)
BIG = int("9" * 40)


class ErrorClasses(unittest.TestCase):
    def test_any_refusal_is_a_value_error(self):
        self.assertEqual(KeenError.__bases__, (ValueError,))

    def test_each_stands_straight_under_keen_error(self):
        for kind in (BadSay, NoSay, NoWidth, BadLine):
            with self.subTest(kind=kind.__name__):
                self.assertEqual(kind.__bases__, (KeenError,))

    def test_the_four_are_four(self):
        self.assertEqual(len({BadSay, NoSay, NoWidth, BadLine}), 4)


class Refusals(unittest.TestCase):
    def refused(self, many, pairs):
        for call in CALLS:
            with self.subTest(call=call.__name__, many=many, pairs=pairs):
                with self.assertRaises(BadSay):
                    call(many, pairs)

    def test_a_thing_that_is_not_there_at_either_place(self):
        for many in (1, 2, 5, 12):
            for stranger in (-1, -many, -many - 1, many, many + 1, 10 ** 39, BIG, -BIG):
                self.refused(many, [(stranger, 0)])
                self.refused(many, [(0, stranger)])
                self.refused(many, [(stranger, stranger)])

    def test_wherever_it_stands_among_the_others(self):
        others = [(0, 1), (1, 2), (0, 2)]
        for place in range(4):
            for bad in ((3, 0), (0, 3), (-1, 0), (0, -1)):
                self.refused(3, others[:place] + [bad] + others[place:])

    def test_ahead_of_what_else_could_be_told(self):
        self.refused(4, [(0, 0), (1, 2), (2, 1), (4, 0)])
        self.refused(4, [(0, 1), (2, 3), (0, -1)])
        self.refused(12, [(0, 1)] * 199 + [(11, 12)])

    def test_taken_by_its_own_name_and_those_above_it(self):
        for call in CALLS:
            for kind in (BadSay, KeenError, ValueError):
                with self.subTest(call=call.__name__, kind=kind.__name__):
                    with self.assertRaises(kind):
                        call(2, [(0, 2)])

    def test_none_of_the_other_three(self):
        for call in CALLS:
            with self.subTest(call=call.__name__):
                with self.assertRaises(BadSay) as taken:
                    call(2, [(-1, 0)])
                self.assertNotIsInstance(taken.exception, (NoSay, NoWidth, BadLine))

    def test_the_last_thing_is_there(self):
        for many in (1, 2, 12):
            for call in CALLS:
                with self.subTest(call=call.__name__, many=many):
                    call(many, [(many - 1, 0), (0, many - 1), (many - 1, many - 1)])

    def test_nothing_is_refused_for_lying_somewhat_beyond(self):
        chain = [(one, other) for one in range(14) for other in range(one)]
        self.assertIsNone(round_of(14, chain * 3))
        self.assertIsNone(two_pairs(14, chain * 3))
        self.assertEqual(alike(14, chain * 3), [[thing] for thing in range(14)])
        self.assertEqual(spans(14, chain * 3), ("spans", [(thing, thing) for thing in range(14)]))


if __name__ == "__main__":
    unittest.main()
