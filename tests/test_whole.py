"""What holds over the whole program, marks and spans side by side."""

import unittest

from keenscale.marks import least_width, marks
from keenscale.spans import spans
from tests.helper import drawn_of_all_kinds, few_things, places


def exchanged(pairs):
    return [(other, one) for one, other in pairs]


def from_the_last_on(many, pairs):
    return [(many - 1 - one, many - 1 - other) for one, other in pairs]


def without_the_last(many, pairs):
    return [pair for pair in pairs if many - 1 not in pair]


def outline(many, pairs):
    """What is told but which marks, which spans and which things forbid them."""
    by_marks, by_spans = marks(many, pairs), spans(many, pairs)
    width = by_marks[1] if by_marks[0] == "marks" else None
    used = places(by_spans[1]) if by_spans[0] == "spans" else None
    return (by_marks[0], width, by_spans[0], used)


def tried():
    yield from few_things()
    for many in (5, 8, 12):
        for pairs in drawn_of_all_kinds(1100 + many, many, 40):
            yield many, pairs


class Whole(unittest.TestCase):
    def test_things_exchanged_or_called_from_the_last_one_on(self):
        for many, pairs in tried():
            told = outline(many, pairs)
            turned = from_the_last_on(many, pairs)
            for other in (exchanged(pairs), turned, exchanged(turned)):
                self.assertEqual(outline(many, other), told, (many, pairs))
                self.assertEqual(least_width(many, other), told[1], (many, pairs))

    def test_without_the_last_thing(self):
        seen = set()
        for many, pairs in tried():
            if many == 1:
                continue
            told = outline(many, pairs)
            fewer = outline(many - 1, without_the_last(many, pairs))
            if told[0] == "marks":
                self.assertEqual(fewer[0], "marks", (many, pairs))
                self.assertLessEqual(fewer[1], told[1], (many, pairs))
            if told[2] == "spans":
                self.assertEqual(fewer[2], "spans", (many, pairs))
                self.assertLessEqual(fewer[3], told[3], (many, pairs))
            seen.add((told[0], fewer[0]))
        self.assertLessEqual({("round", "marks"), ("pairs", "marks"), ("row", "marks")}, seen)

    def test_where_marks_are_told_spans_are(self):
        seen = set()
        for many, pairs in tried():
            told = outline(many, pairs)
            seen.add((told[0], told[2]))
        self.assertEqual(seen, {("marks", "spans"), ("row", "spans"), ("pairs", "pairs"), ("round", "round")})


if __name__ == "__main__":
    unittest.main()
