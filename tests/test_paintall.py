"""Promise 16: paintall."""

import unittest

from tests.helper import (FAR_OUT, HUGE, author, clock, cut, last, options, paint, paintall, pattern, put, run, text,
                          told_changes_after, told_row_after, track)


def own_values(k, *calls):
    return [piece[1][k] for piece in told_row_after(*calls)]


def pending(*calls):
    return [piece[4] for piece in told_row_after(*calls)]


class PaintallRefusalsTest(unittest.TestCase):

    def test_no_pattern_comes_first(self):
        for p, q, k, v in ((0, 0, 0, 0), (0, 1, 0, 0), (0, 0, 4, 0), FAR_OUT + FAR_OUT):
            self.assertEqual(last(paintall(p, q, k, v)), [-8], (p, q, k, v))

    def test_both_ends_of_the_text(self):
        start = (put(0, "aaa"), pattern("a"))
        for p, q in ((-1, 3), (0, 4), (2, 1), (3, 2), (4, 4), (0, -1), (-HUGE, 3), (0, HUGE), (HUGE, -HUGE), FAR_OUT):
            self.assertEqual(last(*start, paintall(p, q, 0, 1)), [-1], (p, q))
            self.assertEqual(last(*start, paintall(p, q, 4, 100)), [-1], (p, q))
        self.assertEqual(last(*start, paintall(0, 3, 0, 1)), [3, 0])
        self.assertEqual(last(*start, paintall(3, 3, 0, 1)), [0, 0])
        self.assertEqual(last(*start, paintall(0, 0, 0, 1)), [0, 0])

    def test_properties_and_values(self):
        start = (put(0, "aaa"), pattern("a"))
        for k, v in ((0, 0), (3, 99)):
            self.assertEqual(last(*start, paintall(0, 3, k, v)), [3, 0], (k, v))
        for k in (-1, 4) + FAR_OUT:
            self.assertEqual(last(*start, paintall(0, 3, k, 1)), [-2], k)
        for v in (-1, 100) + FAR_OUT:
            self.assertEqual(last(*start, paintall(0, 3, 0, v)), [-2], v)

    def test_refused_even_without_a_match(self):
        self.assertEqual(last(put(0, "aaa"), pattern("b"), paintall(0, 3, 4, 1)), [-2])

    def test_refused_paintall_leaves_everything(self):
        start = (put(0, "aaa"), track(1), pattern("a"))
        for refused in (paintall(0, 4, 0, 1), paintall(0, 3, 4, 1), paintall(0, 3, 0, 100)):
            self.assertEqual(told_row_after(*start, refused), told_row_after(*start))
            self.assertEqual(last(*start, refused, put(0, "x")), [1])


class PaintallTest(unittest.TestCase):

    def test_untracked_paints_own_looks(self):
        calls = (put(0, "abba"), pattern("a"), paintall(0, 4, 2, 5))
        self.assertEqual(last(*calls), [2, 0])
        self.assertEqual(own_values(2, *calls), [5, 0, 0, 5, 0])
        self.assertEqual(told_changes_after(*calls), [])

    def test_tracked_from_the_last_match_to_the_first(self):
        calls = (put(0, "aba"), author(7), clock(3), track(1), pattern("a"), paintall(0, 3, 2, 5))
        self.assertEqual(last(*calls), [2, 2])
        self.assertEqual(pending(*calls), [[(2, 2, 5)], [], [(1, 2, 5)], []])
        self.assertEqual(told_changes_after(*calls), [(7, 3, 3, 1), (7, 3, 3, 1)])

    def test_one_change_for_all_pieces_of_a_match(self):
        calls = (put(0, "aa aaa"), track(1), pattern("a@"), paintall(0, 6, 0, 1))
        self.assertEqual(last(*calls), [2, 2])
        self.assertEqual(told_changes_after(*calls), [(1, 0, 3, 3), (1, 0, 3, 2)])

    def test_paints_that_change_nothing(self):
        start = (put(0, "aba"), track(1), pattern("a"))
        self.assertEqual(last(*start, paintall(0, 3, 0, 0)), [2, 0])
        self.assertEqual(told_changes_after(*start, paintall(0, 3, 0, 0)), [])
        self.assertEqual(last(*start, paintall(0, 3, 0, 1), paintall(0, 3, 0, 1)), [2, 0])
        self.assertEqual(last(*start, paint(0, 1, 0, 1), paintall(0, 3, 0, 1)), [2, 1])
        self.assertEqual(pending(*start, paint(0, 1, 0, 1), paintall(0, 3, 0, 1)), [[(1, 0, 1)], [], [(2, 0, 1)], []])

    def test_numbers_go_on_behind_a_paint_that_changes_nothing(self):
        calls = (put(0, "aaa"), track(1), paint(1, 2, 0, 1), pattern("a"), paintall(0, 3, 0, 1))
        self.assertEqual(last(*calls), [3, 2])
        self.assertEqual(pending(*calls), [[(3, 0, 1)], [(1, 0, 1)], [(2, 0, 1)], []])

    def test_a_match_of_which_a_part_has_the_value(self):
        calls = (put(0, "aaa"), track(1), paint(1, 2, 0, 1), pattern("aaa"), paintall(0, 3, 0, 1))
        self.assertEqual(last(*calls), [1, 1])
        self.assertEqual(pending(*calls), [[(2, 0, 1)], [(1, 0, 1)], [(2, 0, 1)], []])
        self.assertEqual(told_changes_after(*calls), [(1, 0, 3, 1), (1, 0, 3, 2)])

    def test_own_pieces_pieces_of_others_and_pieces_without_insertions(self):
        calls = (put(0, "a"), track(1), put(1, "a"), author(2), put(2, "a"), pattern("a"), paintall(0, 3, 1, 4))
        self.assertEqual(last(*calls), [3, 2])
        self.assertEqual([(piece[1][1], piece[4]) for piece in told_row_after(*calls)],
                         [(0, [(4, 1, 4)]), (0, [(3, 1, 4)]), (4, []), (0, [])])
        self.assertEqual(told_changes_after(*calls), [(1, 0, 1, 1), (2, 0, 1, 1), (2, 0, 3, 1), (2, 0, 3, 1)])

    def test_pending_looks_of_own_pieces_go(self):
        calls = (track(1), put(0, "aa"), author(2), paint(0, 2, 0, 5), paint(0, 2, 1, 6), author(1), pattern("a"),
                 paintall(0, 1, 0, 9))
        self.assertEqual(last(*calls), [1, 0])
        self.assertEqual([(piece[1][0], piece[4]) for piece in told_row_after(*calls)],
                         [(9, [(3, 1, 6)]), (0, [(2, 0, 5), (3, 1, 6)]), (0, [])])
        self.assertEqual(told_changes_after(*calls), [(1, 0, 1, 2), (2, 0, 3, 1), (2, 0, 3, 2)])

    def test_pieces_that_are_not_shown_are_not_painted(self):
        start = (put(0, "a-a"), track(1), cut(1, 2), author(2), pattern("aa"))
        self.assertEqual(last(*start, paintall(0, 2, 0, 3)), [1, 1])
        self.assertEqual(pending(*start, paintall(0, 2, 0, 3)), [[(2, 0, 3)], [], [(2, 0, 3)], []])
        self.assertEqual(own_values(0, *start, track(0), paintall(0, 2, 0, 3)), [3, 0, 3, 0])

    def test_from_p_to_q_alone(self):
        start = (put(0, "aaaaa"), pattern("aa"))
        self.assertEqual(own_values(0, *start, paintall(1, 4, 0, 1)), [0, 1, 1, 0, 0, 0])
        self.assertEqual(own_values(0, *start, pattern("a@"), paintall(1, 4, 0, 1)), [0, 1, 1, 1, 0, 0])

    def test_matches_are_those_before_anything_is_painted(self):
        start = (put(0, "aaa"), options(0, 0, 0), pattern("a"))
        self.assertEqual(run(*start, paintall(0, 3, 0, 1), paintall(0, 3, 0, 2))[-2:], [[3, 0], [0, 0]])
        self.assertEqual(own_values(0, *start, paintall(0, 3, 0, 1), paintall(0, 3, 0, 2)), [1, 1, 1, 0])

    def test_no_matches(self):
        self.assertEqual(last(put(0, "abc"), track(1), pattern("d"), paintall(0, 3, 0, 1)), [0, 0])
        self.assertEqual(last(pattern("d"), paintall(0, 0, 0, 1)), [0, 0])

    def test_paragraphs_ends_are_painted_too(self):
        calls = (put(0, "a\nb"), pattern("a\\n"), paintall(0, 3, 0, 1))
        self.assertEqual(last(*calls, text(1)), [4, 97, 1, 0, 0, 0, 10, 1, 0, 0, 0, 98, 0, 0, 0, 0, 10, 0, 0, 0, 0])
