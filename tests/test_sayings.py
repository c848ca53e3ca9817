import unittest

from keenscale.sayings import alike, round_of
from tests.helper import (
    are_alike, drawn_sayings, every_saying, every_sayings, falling, has_round, is_round, whole,
)


class Rounds(unittest.TestCase):
    def look(self, many, pairs):
        walked = round_of(many, list(pairs))
        if has_round(many, pairs):
            self.assertTrue(is_round(pairs, walked), (many, pairs, walked))
            self.assertTrue(all(whole(thing) for thing in walked), walked)
        else:
            self.assertIsNone(walked, (many, pairs))

    def test_no_saying(self):
        for many in (1, 2, 12):
            self.assertIsNone(round_of(many, []))

    def test_a_thing_better_than_itself(self):
        self.assertEqual(round_of(1, [(0, 0)]), [0])
        self.assertEqual(round_of(12, [(0, 11), (11, 11)]), [11])

    def test_two_things_each_better_than_the_other(self):
        self.assertEqual(sorted(round_of(2, [(0, 1), (1, 0)])), [0, 1])
        self.assertEqual(sorted(round_of(12, [(3, 9), (9, 3), (0, 3), (9, 1)])), [3, 9])

    def test_the_way_in_and_the_way_out_are_no_part_of_it(self):
        pairs = [(0, 1), (1, 2), (2, 3), (3, 4), (4, 2), (4, 5), (5, 6)]
        self.assertEqual(sorted(round_of(7, pairs)), [2, 3, 4])
        self.look(7, pairs)

    def test_all_twelve_things_in_one_round(self):
        pairs = [(thing, (thing + 5) % 12) for thing in range(12)]
        self.assertEqual(len(round_of(12, pairs)), 12)
        self.look(12, pairs)

    def test_the_round_goes_from_the_better_one_on(self):
        self.look(3, [(2, 1), (1, 0), (0, 2)])
        self.look(3, [(0, 1), (1, 2), (2, 0)])

    def test_two_ways_to_the_same_thing_are_no_round(self):
        self.assertIsNone(round_of(4, [(0, 1), (0, 2), (1, 3), (2, 3)]))

    def test_many_times_over_says_no_more_than_once(self):
        self.assertIsNone(round_of(2, [(0, 1)] * 200))
        self.look(2, [(0, 1), (1, 0)] * 100)

    def test_two_hundred_sayings(self):
        all_of_them = every_saying(12)
        self.look(12, all_of_them + all_of_them[:56])
        self.assertIsNone(round_of(12, (falling(12) * 4)[:200]))

    def test_the_last_of_two_hundred_counts_like_the_first(self):
        self.look(2, [(0, 1)] * 199 + [(1, 0)])
        self.look(12, [(3, 7)] * 199 + [(9, 9)])

    def test_all_sayings_of_up_to_three_things(self):
        for many in (1, 2, 3):
            for pairs in every_sayings(many):
                self.look(many, pairs)
                self.look(many, pairs[::-1])

    def test_sayings_of_more_things(self):
        for many in (4, 6, 9, 12):
            for pairs in drawn_sayings(many, many, 25):
                self.look(many, pairs)


class Alike(unittest.TestCase):
    def look(self, many, pairs):
        said = set(pairs)
        groups = alike(many, list(pairs))
        self.assertIsInstance(groups, list)
        self.assertTrue(all(isinstance(group, list) and group for group in groups), groups)
        self.assertTrue(all(whole(thing) for group in groups for thing in group), groups)
        self.assertEqual(sorted(thing for group in groups for thing in group), list(range(many)))
        self.assertEqual(groups, sorted(sorted(group) for group in groups))
        home = {thing: place for place, group in enumerate(groups) for thing in group}
        for one in range(many):
            for other in range(many):
                self.assertEqual(
                    home[one] == home[other], are_alike(many, said, one, other), (many, pairs, one, other)
                )

    def test_no_saying(self):
        for many in (1, 2, 12):
            self.assertEqual(alike(many, []), [list(range(many))])

    def test_one_thing(self):
        self.assertEqual(alike(1, [(0, 0)]), [[0]])

    def test_two_things(self):
        self.assertEqual(alike(2, [(0, 1)]), [[0], [1]])
        self.assertEqual(alike(2, [(0, 1), (1, 0)]), [[0], [1]])
        self.assertEqual(alike(2, [(0, 0)]), [[0], [1]])
        self.assertEqual(alike(2, [(0, 0), (1, 1)]), [[0], [1]])
        self.assertEqual(alike(2, [(0, 0), (0, 1), (1, 0), (1, 1)]), [[0, 1]])

    def test_what_is_better_than_them_counts_too(self):
        self.assertEqual(alike(3, [(2, 0)]), [[0], [1], [2]])
        self.assertEqual(alike(3, [(2, 0), (2, 1)]), [[0, 1], [2]])

    def test_what_they_are_better_than_counts_too(self):
        self.assertEqual(alike(3, [(0, 2)]), [[0], [1], [2]])
        self.assertEqual(alike(3, [(0, 2), (1, 2)]), [[0, 1], [2]])

    def test_ordered_by_their_first_things(self):
        pairs = [(5, 1), (5, 3), (2, 3), (2, 1), (0, 4), (4, 4)]
        self.assertEqual(alike(6, pairs), [[0], [1, 3], [2, 5], [4]])

    def test_many_times_over_and_two_hundred_sayings(self):
        self.assertEqual(alike(3, [(2, 0), (2, 1)] + [(2, 0)] * 198), [[0, 1], [2]])
        all_of_them = every_saying(12)
        self.assertEqual(alike(12, all_of_them + all_of_them[:56]), [list(range(12))])
        self.assertEqual(alike(3, [(2, 0)] * 199 + [(2, 1)]), [[0, 1], [2]])

    def test_all_sayings_of_up_to_three_things(self):
        for many in (1, 2, 3):
            for pairs in every_sayings(many):
                self.look(many, pairs)
                self.look(many, pairs[::-1])

    def test_sayings_of_more_things(self):
        for many in (4, 6, 9, 12):
            for pairs in drawn_sayings(100 + many, many, 25):
                self.look(many, pairs)


if __name__ == "__main__":
    unittest.main()
