import inspect
import unittest

from keenscale import errors, judge, lines, marks, sayings, spans

FUNCTIONS = (
    (sayings, "round_of", ["many", "pairs"]),
    (sayings, "alike", ["many", "pairs"]),
    (spans, "two_pairs", ["many", "pairs"]),
    (spans, "spans", ["many", "pairs"]),
    (marks, "marks_of", ["many", "pairs", "width"]),
    (marks, "misfit", ["many", "pairs", "width"]),
    (marks, "least_width", ["many", "pairs"]),
    (marks, "three_row", ["many", "pairs"]),
    (marks, "marks", ["many", "pairs"]),
    (judge, "Judge", ["many"]),
    (lines, "shown", ["many", "pairs"]),
    (lines, "read", ["text"]),
)
METHODS = (
    ("say", ["one", "other"]), ("unsay", ["one", "other"]), ("sayings", []), ("by_marks", []), ("by_spans", []),
)


def taken(call):
    """What a call takes; none of it may be left out."""
    given = inspect.signature(call).parameters.values()
    return [parameter.name for parameter in given if parameter.default is parameter.empty]


class Interface(unittest.TestCase):
    def test_functions_and_what_they_take(self):
        for module, name, names in FUNCTIONS:
            with self.subTest(module=module.__name__, name=name):
                call = getattr(module, name)
                self.assertEqual(call.__module__, module.__name__)
                self.assertEqual(taken(call), names)
                self.assertEqual(len(inspect.signature(call).parameters), len(names))

    def test_methods_and_what_they_take(self):
        made = judge.Judge(2)
        for name, names in METHODS:
            with self.subTest(name=name):
                self.assertEqual(taken(getattr(made, name)), names)

    def test_the_field_of_a_judge(self):
        self.assertEqual(judge.Judge(5).many, 5)
        self.assertEqual(judge.Judge(many=12).many, 12)

    def test_error_classes(self):
        for name in ("KeenError", "BadSay", "NoSay", "NoWidth", "BadLine"):
            self.assertTrue(issubclass(getattr(errors, name), ValueError))

    def test_called_by_the_names_of_what_they_take(self):
        pairs = [(0, 1)]
        self.assertEqual(marks.marks_of(many=2, pairs=pairs, width=7), [7, 0])
        self.assertIsNone(marks.misfit(many=2, pairs=pairs, width=7))
        self.assertEqual(lines.read(text=lines.shown(many=2, pairs=pairs)), (2, pairs))
        made = judge.Judge(many=2)
        self.assertIs(made.say(one=0, other=1), True)
        self.assertIsNone(made.unsay(one=0, other=1))


class SomewhatBeyond(unittest.TestCase):
    def test_more_things_and_more_sayings(self):
        chain = [(one, other) for one in range(14) for other in range(one)]
        pairs = chain * 3
        self.assertIsNone(sayings.round_of(14, pairs))
        self.assertEqual(sayings.alike(14, pairs), [[thing] for thing in range(14)])
        self.assertIsNone(spans.two_pairs(14, pairs))
        self.assertEqual(spans.spans(14, pairs), ("spans", [(thing, thing) for thing in range(14)]))
        self.assertIsNone(marks.three_row(14, pairs))
        self.assertEqual(marks.least_width(14, pairs), 1)
        self.assertEqual(marks.marks(14, pairs), ("marks", 1, list(range(14))))
        self.assertEqual(marks.marks_of(14, pairs, 1000), [thing * 1000 for thing in range(14)])
        self.assertIsNone(marks.misfit(14, pairs, 1000))
        self.assertEqual(lines.shown(14, pairs), "14:" + "".join(f" {one}>{other}" for one, other in pairs))

    def test_a_greater_width_for_more_things(self):
        pairs = [(one, other) for one in range(15) for other in range(15) if one - other >= 8]
        self.assertEqual(marks.marks(15, pairs), ("marks", 8, list(range(15))))

    def test_no_things(self):
        self.assertIsNone(sayings.round_of(0, []))
        self.assertEqual(sayings.alike(0, []), [])
        self.assertIsNone(spans.two_pairs(0, []))
        self.assertEqual(spans.spans(0, []), ("spans", []))
        self.assertIsNone(marks.three_row(0, []))
        self.assertEqual(marks.least_width(0, []), 1)
        self.assertEqual(marks.marks(0, []), ("marks", 1, []))
        self.assertEqual(marks.marks_of(0, [], 1), [])
        self.assertIsNone(marks.misfit(0, [], 1))
        self.assertEqual(lines.shown(0, []), "0:")

    def test_a_judge_of_more_things(self):
        made = judge.Judge(15)
        for one in range(15):
            for other in range(15):
                self.assertIs(made.say(one, other), True)
        self.assertEqual(len(made.sayings()), 225)
        self.assertEqual(made.by_marks()[0], "round")
        self.assertEqual(judge.Judge(0).by_marks(), ("marks", 1, []))


if __name__ == "__main__":
    unittest.main()
