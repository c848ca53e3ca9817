import unittest
from copy import deepcopy

from keenscale.lines import read
from keenscale.sayings import alike
from tests.helper import CALLS, lists_in

# One for each kind of answer: no saying, marks, a round, two pairs, three in a row, things alike, a saying twice.
CASES = (
    (1, []),
    (3, [(2, 1), (1, 0), (2, 0)]),
    (3, [(2, 0)]),
    (4, [(3, 0), (0, 3), (2, 2)]),
    (4, [(2, 3), (0, 1)]),
    (4, [(3, 2), (2, 1), (3, 1)]),
    (12, [(11, 0), (11, 1), (11, 0), (5, 0), (5, 1)]),
)


def each_call():
    return [(name, call, many, list(pairs)) for many, pairs in CASES for name, call in CALLS.items()]


def spoil(told):
    for part in lists_in(told):
        part.clear()
        part.append(99)


class HandedIn(unittest.TestCase):
    def test_it_is_as_it_was(self):
        for name, call, many, pairs in each_call():
            before = deepcopy(pairs)
            call(many, pairs)
            self.assertEqual(pairs, before, name)

    def test_changing_it_changes_no_answer(self):
        for name, call, many, pairs in each_call():
            kept = list(pairs)
            told = call(many, pairs)
            before = deepcopy(told)
            pairs.clear()
            pairs.append((0, 0))
            self.assertEqual(told, before, name)
            self.assertEqual(call(many, kept), before, name)
            self.assertEqual(call(many, pairs), call(many, [(0, 0)]), name)

    def test_it_is_not_what_is_told(self):
        for name, call, many, pairs in each_call():
            for part in lists_in(call(many, pairs)):
                self.assertIsNot(part, pairs, name)

    def test_what_is_refused_is_as_it_was_too(self):
        for name, call in CALLS.items():
            pairs = [(1, 0), (2, 0), (0, 1)]
            with self.assertRaises(ValueError):
                call(2, pairs)
            self.assertEqual(pairs, [(1, 0), (2, 0), (0, 1)], name)


class Told(unittest.TestCase):
    def test_no_two_lists_of_it_are_one(self):
        for name, call, many, pairs in each_call():
            first, second = call(many, list(pairs)), call(many, list(pairs))
            found = lists_in(first) + lists_in(second)
            self.assertEqual(len({id(part) for part in found}), len(found), (name, many, pairs))

    def test_changing_it_changes_no_later_answer(self):
        for name, call, many, pairs in each_call():
            told = call(many, list(pairs))
            before = deepcopy(told)
            spoil(told)
            self.assertEqual(call(many, list(pairs)), before, (name, many, pairs))

    def test_one_of_its_lists_changed_leaves_the_others(self):
        groups = alike(4, [(0, 1)])
        groups[0].append(99)
        self.assertEqual(groups, [[0, 99], [1], [2, 3]])

    def test_what_was_read(self):
        for text in ("3:", "3: 0>1 0>1"):
            first, second = read(text), read(text)
            self.assertIsNot(first[1], second[1])
            spoil(first)
            self.assertNotEqual(first, second)
            self.assertEqual(read(text), second)


if __name__ == "__main__":
    unittest.main()
