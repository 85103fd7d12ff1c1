"""Promises 11 and 13: find and matches."""

import unittest

from tests.helper import (FAR_OUT, HUGE, cut, find, last, matches, pattern, put, row_after, run, track)


class FindRefusalsTest(unittest.TestCase):

    def test_no_pattern(self):
        self.assertEqual(last(put(0, "abc"), find(0)), [-8])
        self.assertEqual(last(find(0)), [-8])

    def test_no_pattern_comes_first(self):
        for p in (-1, 1) + FAR_OUT:
            self.assertEqual(last(find(p)), [-8], p)

    def test_a_refused_pattern_is_none(self):
        self.assertEqual(last(put(0, "abc"), pattern("("), find(0)), [-8])

    def test_both_ends_of_the_range(self):
        start = (put(0, "abc"), pattern("c"))
        self.assertEqual(last(*start, find(0)), [1, 2, 3])
        self.assertEqual(last(*start, find(3)), [0, 0, 0])
        for p in (-1, 4) + FAR_OUT:
            self.assertEqual(last(*start, find(p)), [-1], p)

    def test_empty_text(self):
        self.assertEqual(run(pattern("a"), find(0), find(1), find(-1)), [[1, 0], [0, 0, 0], [-1], [-1]])

    def test_what_is_not_shown_has_no_position(self):
        start = (put(0, "abc"), track(1), cut(1, 3), pattern("a"))
        self.assertEqual(last(*start, find(1)), [0, 0, 0])
        self.assertEqual(last(*start, find(2)), [-1])


class FindTest(unittest.TestCase):

    def test_first_match_from_a_position(self):
        start = (put(0, "ab ab"), pattern("ab"))
        self.assertEqual([last(*start, find(p)) for p in range(6)],
                         [[1, 0, 2], [1, 3, 5], [1, 3, 5], [1, 3, 5], [0, 0, 0], [0, 0, 0]])

    def test_a_match_that_begins_before_is_not_taken(self):
        self.assertEqual(last(put(0, "aaa"), pattern("a@"), find(1)), [1, 1, 3])

    def test_no_match(self):
        self.assertEqual(last(put(0, "abc"), pattern("d"), find(0)), [0, 0, 0])
        self.assertEqual(last(put(0, "abc"), pattern("d{0,1}"), find(0)), [0, 0, 0])

    def test_a_match_up_to_the_texts_end(self):
        self.assertEqual(last(put(0, "ab\ncd"), pattern("\\n*d>"), find(0)), [1, 2, 5])

    def test_least_position_before_longest_match(self):
        self.assertEqual(last(put(0, "ab abbb"), pattern("ab@"), find(0)), [1, 0, 2])

    def test_changes_nothing(self):
        start = (put(0, "abc"), track(1), cut(0, 1), pattern("b"))
        self.assertEqual(row_after(*start, find(0), matches(0, 2)), row_after(*start))


class MatchesRefusalsTest(unittest.TestCase):

    def test_no_pattern_comes_first(self):
        for p, q in ((0, 0), (0, 1), (-1, 0), (1, 0), FAR_OUT):
            self.assertEqual(last(matches(p, q)), [-8], (p, q))

    def test_both_ends_of_the_range(self):
        start = (put(0, "abc"), pattern("?@"))
        for p, q in ((-1, 3), (0, 4), (2, 1), (3, 2), (4, 4), (0, -1), (-HUGE, 3), (0, HUGE), (HUGE, -HUGE), FAR_OUT):
            self.assertEqual(last(*start, matches(p, q)), [-1], (p, q))
        self.assertEqual(last(*start, matches(0, 3)), [1, 0, 3])
        self.assertEqual(last(*start, matches(3, 3)), [0])
        self.assertEqual(last(*start, matches(0, 0)), [0])
        self.assertEqual(last(*start, matches(2, 3)), [1, 2, 3])

    def test_empty_text(self):
        self.assertEqual(run(pattern("a"), matches(0, 0), matches(0, 1))[1:], [[0], [-1]])


class MatchesTest(unittest.TestCase):

    def test_all_in_order(self):
        self.assertEqual(last(put(0, "a b aa"), pattern("a"), matches(0, 6)), [3, 0, 1, 4, 5, 5, 6])

    def test_they_do_not_overlap(self):
        self.assertEqual(last(put(0, "ababababa"), pattern("aba"), matches(0, 9)), [2, 0, 3, 4, 7])
        self.assertEqual(last(put(0, "aaaaa"), pattern("aa"), matches(0, 5)), [2, 0, 2, 2, 4])

    def test_the_next_one_may_begin_where_one_ended(self):
        self.assertEqual(last(put(0, "abab"), pattern("ab"), matches(0, 4)), [2, 0, 2, 2, 4])

    def test_from_p_to_q_alone(self):
        start = (put(0, "abababab"), pattern("ab"))
        self.assertEqual(last(*start, matches(1, 7)), [2, 2, 4, 4, 6])
        self.assertEqual(last(*start, matches(2, 6)), [2, 2, 4, 4, 6])
        self.assertEqual(last(*start, matches(2, 5)), [1, 2, 4])
        self.assertEqual(last(*start, matches(3, 5)), [0])

    def test_the_limit_holds_for_each_of_them(self):
        self.assertEqual(last(put(0, "aaaa"), pattern("a{2,3}"), matches(0, 4)), [1, 0, 3])
        self.assertEqual(last(put(0, "aaaa"), pattern("a{2,3}"), matches(1, 3)), [1, 1, 3])
        self.assertEqual(last(put(0, "aabaa"), pattern("a@"), matches(0, 4)), [2, 0, 2, 3, 4])
