import unittest
from copy import deepcopy

from keenscale.errors import BadSay, NoSay
from keenscale.judge import Judge
from keenscale.marks import marks
from keenscale.spans import spans
from tests.helper import BIG, draws, every_saying, falling, lists_in


def judge_of(many, pairs):
    judge = Judge(many)
    for one, other in pairs:
        judge.say(one, other)
    return judge


class Judging(unittest.TestCase):
    def look(self, judge, many, said):
        self.assertEqual(judge.many, many)
        self.assertEqual(judge.sayings(), sorted(said))
        self.assertEqual(judge.by_marks(), marks(many, sorted(said)))
        self.assertEqual(judge.by_spans(), spans(many, sorted(said)))

    def test_none_at_first(self):
        for many in (1, 2, 12):
            judge = Judge(many)
            self.assertEqual(judge.sayings(), [])
            self.assertEqual(judge.by_marks(), ("marks", 1, [0] * many))
            self.assertEqual(judge.by_spans(), ("spans", [(0, 0)] * many))
            self.look(judge, many, [])

    def test_true_where_it_is_new(self):
        judge = Judge(3)
        self.assertIs(judge.say(0, 1), True)
        self.assertIs(judge.say(0, 1), False)
        self.assertIs(judge.say(1, 0), True)
        self.assertIs(judge.say(2, 2), True)
        self.assertIs(judge.say(2, 2), False)
        self.look(judge, 3, [(0, 1), (1, 0), (2, 2)])

    def test_taken_back(self):
        judge = judge_of(3, [(2, 1), (0, 1)])
        self.assertIsNone(judge.unsay(2, 1))
        self.look(judge, 3, [(0, 1)])
        self.assertIs(judge.say(2, 1), True)
        self.look(judge, 3, [(0, 1), (2, 1)])

    def test_said_twice_is_taken_back_at_once(self):
        judge = judge_of(2, [(0, 1), (0, 1)])
        judge.unsay(0, 1)
        self.look(judge, 2, [])
        with self.assertRaises(NoSay):
            judge.unsay(0, 1)

    def test_in_the_order_of_tuples(self):
        pairs = [(10, 2), (2, 10), (9, 11), (2, 9), (11, 0), (0, 11), (2, 2)]
        judge = judge_of(12, pairs)
        told = judge.sayings()
        self.assertEqual(told, [(0, 11), (2, 2), (2, 9), (2, 10), (9, 11), (10, 2), (11, 0)])
        self.assertIsInstance(told, list)
        self.assertTrue(all(isinstance(pair, tuple) for pair in told))

    def test_all_there_are(self):
        judge = judge_of(12, reversed(every_saying(12)))
        self.look(judge, 12, every_saying(12))
        for one, other in every_saying(12):
            if one <= other:
                judge.unsay(one, other)
        self.look(judge, 12, falling(12))

    def test_each_kind_of_answer(self):
        judge = judge_of(4, [(0, 1)])
        self.assertEqual((judge.by_marks()[0], judge.by_spans()[0]), ("marks", "spans"))
        judge.say(1, 2)
        self.assertEqual((judge.by_marks()[0], judge.by_spans()[0]), ("pairs", "pairs"))
        judge.say(0, 2)
        self.assertEqual((judge.by_marks()[0], judge.by_spans()[0]), ("row", "spans"))
        judge.say(2, 0)
        self.assertEqual((judge.by_marks()[0], judge.by_spans()[0]), ("round", "round"))

    def test_said_and_taken_back_in_turn(self):
        for many in (1, 2, 4, 12):
            draw = draws(many)
            judge, said = Judge(many), set()
            for time in range(300):
                pair = (next(draw) % many, next(draw) % many)
                if next(draw) % 3:
                    self.assertIs(judge.say(*pair), pair not in said)
                    said.add(pair)
                elif pair in said:
                    self.assertIsNone(judge.unsay(*pair))
                    said.discard(pair)
                else:
                    with self.assertRaises(NoSay):
                        judge.unsay(*pair)
                self.assertEqual(judge.sayings(), sorted(said))
            self.look(judge, many, said)


class Refused(unittest.TestCase):
    def test_a_thing_that_is_not_there(self):
        for many in (1, 2, 12):
            judge = judge_of(many, [(0, many - 1)])
            for stranger in (-1, -many, -many - 1, many, many + 1, 10 ** 39, BIG, -BIG):
                for pair in ((stranger, 0), (0, stranger), (stranger, stranger)):
                    for call in (judge.say, judge.unsay):
                        with self.subTest(many=many, pair=pair, call=call.__name__):
                            with self.assertRaises(BadSay):
                                call(*pair)
                            self.assertEqual(judge.sayings(), [(0, many - 1)])

    def test_what_was_not_said(self):
        judge = judge_of(3, [(0, 1)])
        for pair in ((1, 0), (0, 0), (0, 2), (2, 2)):
            with self.subTest(pair=pair):
                with self.assertRaises(NoSay):
                    judge.unsay(*pair)
                self.assertEqual(judge.sayings(), [(0, 1)])
        self.assertIs(judge.say(0, 1), False)
        self.assertIs(judge.say(1, 0), True)

    def test_nothing_was_said_yet(self):
        judge = Judge(1)
        with self.assertRaises(NoSay):
            judge.unsay(0, 0)
        with self.assertRaises(BadSay):
            judge.unsay(0, 1)
        self.assertEqual((judge.many, judge.sayings()), (1, []))

    def test_what_is_refused_changes_no_answer(self):
        judge = judge_of(3, [(0, 1), (0, 2)])
        before = (judge.many, judge.sayings(), judge.by_marks(), judge.by_spans())
        for call, pair in ((judge.say, (0, 3)), (judge.unsay, (3, 0)), (judge.unsay, (2, 0))):
            with self.assertRaises(ValueError):
                call(*pair)
            self.assertEqual((judge.many, judge.sayings(), judge.by_marks(), judge.by_spans()), before)


class Apart(unittest.TestCase):
    def test_two_judges_share_nothing(self):
        first, second = Judge(3), Judge(3)
        self.assertIs(first.say(0, 1), True)
        self.assertEqual(second.sayings(), [])
        self.assertIs(second.say(0, 1), True)
        first.unsay(0, 1)
        self.assertEqual((first.sayings(), second.sayings()), ([], [(0, 1)]))
        third = Judge(2)
        self.assertEqual((third.many, third.sayings()), (2, []))
        self.assertEqual((first.many, second.many), (3, 3))

    def test_changing_what_was_told_changes_nothing_of_the_judge(self):
        for pairs in ([], [(0, 1)], [(0, 1), (2, 3)], [(0, 1), (1, 0)], [(0, 1), (1, 2), (0, 2)]):
            judge = judge_of(4, pairs)
            for call in (judge.sayings, judge.by_marks, judge.by_spans):
                told = call()
                before = deepcopy(told)
                for part in lists_in(told):
                    part.clear()
                    part.append((0, 0))
                self.assertEqual(call(), before)
            self.assertEqual(judge.sayings(), sorted(pairs))

    def test_what_was_told_stays_as_it_was(self):
        judge = judge_of(3, [(0, 1)])
        told = (judge.sayings(), judge.by_marks(), judge.by_spans())
        before = deepcopy(told)
        judge.say(1, 2)
        judge.unsay(0, 1)
        self.assertEqual(told, before)

    def test_no_two_lists_told_are_one(self):
        judge = judge_of(4, [(0, 1), (1, 2), (0, 2)])
        told = [call() for call in (judge.sayings, judge.by_marks, judge.by_spans) for time in range(2)]
        found = [part for answer in told for part in lists_in(answer)]
        self.assertEqual(len({id(part) for part in found}), len(found))


if __name__ == "__main__":
    unittest.main()
