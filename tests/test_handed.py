import unittest
from copy import deepcopy

from keenscale.sayings import alike, round_of
from keenscale.spans import spans, two_pairs

CALLS = (round_of, alike, two_pairs, spans)

# One for each kind of answer: no saying, spans, a round, two pairs, things that are alike, a saying twice.
CASES = (
    (1, []),
    (3, [(2, 1), (1, 0), (2, 0)]),
    (4, [(3, 0), (0, 3), (2, 2)]),
    (4, [(2, 3), (0, 1)]),
    (12, [(11, 0), (11, 1), (11, 0), (5, 0), (5, 1)]),
)


def each_call():
    return [(call, many, list(pairs)) for many, pairs in CASES for call in CALLS]


def lists_in(told):
    found = [told] if isinstance(told, list) else []
    if isinstance(told, (list, tuple)):
        for part in told:
            found.extend(lists_in(part))
    return found


class HandedIn(unittest.TestCase):
    def test_it_is_as_it_was(self):
        for call, many, pairs in each_call():
            before = deepcopy(pairs)
            call(many, pairs)
            self.assertEqual(pairs, before)

    def test_changing_it_changes_no_answer(self):
        for call, many, pairs in each_call():
            kept = list(pairs)
            told = call(many, pairs)
            before = deepcopy(told)
            pairs.clear()
            pairs.append((0, 0))
            self.assertEqual(told, before)
            self.assertEqual(call(many, kept), before)
            self.assertEqual(call(many, pairs), call(many, [(0, 0)]))

    def test_it_is_not_what_is_told(self):
        for call, many, pairs in each_call():
            for part in lists_in(call(many, pairs)):
                self.assertIsNot(part, pairs)

    def test_what_is_refused_is_as_it_was_too(self):
        for call in CALLS:
            pairs = [(1, 0), (2, 0), (0, 1)]
            with self.assertRaises(ValueError):
                call(2, pairs)
            self.assertEqual(pairs, [(1, 0), (2, 0), (0, 1)])


class Told(unittest.TestCase):
    def test_no_two_lists_of_it_are_one(self):
        for call, many, pairs in each_call():
            first, second = call(many, list(pairs)), call(many, list(pairs))
            found = lists_in(first) + lists_in(second)
            self.assertEqual(len({id(part) for part in found}), len(found), (call.__name__, many, pairs))

    def test_changing_it_changes_no_later_answer(self):
        for call, many, pairs in each_call():
            told = call(many, list(pairs))
            before = deepcopy(told)
            for part in lists_in(told):
                part.clear()
                part.append(99)
            self.assertEqual(call(many, list(pairs)), before, (call.__name__, many, pairs))

    def test_one_of_its_lists_changed_leaves_the_others(self):
        groups = alike(4, [(0, 1)])
        groups[0].append(99)
        self.assertEqual(groups, [[0, 99], [1], [2, 3]])


if __name__ == "__main__":
    unittest.main()
