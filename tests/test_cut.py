"""Promise 6: cut."""

import unittest

from tests.helper import (FAR_OUT, HUGE, PLAIN, author, changes_after, clock, cut, last, paint, put, row_after, run,
                          signs_after, track)


class CutRefusalsTest(unittest.TestCase):

    def test_nothing_to_cut(self):
        self.assertEqual(last(cut(0, 1)), [-1])
        self.assertEqual(last(cut(0, 0)), [-1])

    def test_both_ends_of_the_range(self):
        self.assertEqual(last(put(0, "abc"), cut(0, 3)), [0])
        for p, q in ((0, 4), (-1, 3), (2, 2), (2, 1), (3, 4), (3, 3), (4, 5), (0, HUGE), (-HUGE, 3), FAR_OUT):
            self.assertEqual(last(put(0, "abc"), cut(p, q)), [-1], (p, q))

    def test_last_end_is_not_cut(self):
        self.assertEqual(run(put(0, "a"), cut(0, 2), cut(1, 2), cut(0, 1), cut(0, 1)), [[0], [-1], [-1], [0], [-1]])

    def test_refused_cut_leaves_everything(self):
        start = (put(0, "abc"), track(1))
        self.assertEqual(row_after(*start, cut(0, 4)), row_after(*start))
        self.assertEqual(last(*start, cut(0, 4), cut(0, 3)), [1])

    def test_pieces_that_are_not_shown_have_no_place(self):
        start = (put(0, "abc"), track(1), cut(1, 3))
        self.assertEqual(last(*start, cut(0, 2)), [-1])
        self.assertEqual(last(*start, cut(0, 1)), [2])


class CutTest(unittest.TestCase):

    def test_untracked_goes_out(self):
        self.assertEqual(signs_after(put(0, "abcd"), cut(1, 3)), "ad\n")
        self.assertEqual(last(put(0, "abcd"), cut(1, 3)), [0])

    def test_untracked_takes_the_pieces_of_all_authors(self):
        calls = (track(1), put(0, "a"), author(2), put(1, "b"), track(0), cut(0, 2))
        self.assertEqual(signs_after(*calls), "\n")
        self.assertEqual(run(*calls)[-1], [0])

    def test_tracked_stays_with_its_deletion(self):
        calls = (put(0, "abc"), clock(4), author(3), track(1), cut(0, 2))
        self.assertEqual(last(*calls), [1])
        self.assertEqual(row_after(*calls), [(97, PLAIN, [], [1], []), (98, PLAIN, [], [1], []),
                                             (99, PLAIN, [], [], []), (10, PLAIN, [], [], [])])
        self.assertEqual(changes_after(*calls), [(3, 4, 2)])

    def test_own_pieces_go_out_and_enter_no_change(self):
        calls = (track(1), put(0, "abc"), cut(0, 2), put(0, "d"))
        self.assertEqual([answer[0] for answer in run(*calls)], [0, 1, 0, 2])
        self.assertEqual(signs_after(*calls), "dc\n")

    def test_pieces_of_another_author_stay(self):
        calls = (track(1), put(0, "ab"), author(2), cut(0, 1))
        self.assertEqual(last(*calls), [2])
        self.assertEqual(row_after(*calls)[0], (97, PLAIN, [1], [2], []))

    def test_own_and_other_pieces_together(self):
        calls = (put(0, "ad"), track(1), put(1, "b"), author(2), put(2, "c"), cut(0, 4))
        self.assertEqual(last(*calls), [3])
        self.assertEqual([(chr(piece[0]), piece[2], piece[3]) for piece in row_after(*calls)],
                         [("a", [], [3]), ("b", [1], [3]), ("d", [], [3]), ("\n", [], [])])

    def test_all_changes_stay_entered(self):
        calls = (track(1), put(0, "a"), cut(0, 1), put(0, "b"))
        self.assertEqual(last(*calls), [2])

    def test_cut_across_pieces_that_are_not_shown(self):
        calls = (put(0, "abcd"), track(1), cut(1, 2), author(2), cut(0, 2))
        self.assertEqual([piece[3] for piece in row_after(*calls)], [[2], [1], [2], [], []])
        untracked = (put(0, "abcd"), track(1), cut(1, 2), track(0), cut(0, 2))
        self.assertEqual(signs_after(*untracked), "bd\n")

    def test_paragraphs_ends_are_cut_too(self):
        self.assertEqual(signs_after(put(0, "a\nb"), cut(1, 2)), "ab\n")

    def test_pending_looks_stay_with_what_is_cut(self):
        calls = (put(0, "a"), track(1), paint(0, 1, 0, 5), cut(0, 1))
        self.assertEqual(row_after(*calls)[0], (97, PLAIN, [], [2], [(1, 0, 5)]))

    def test_text_after_a_cut_has_its_new_places(self):
        self.assertEqual(run(put(0, "abc"), track(1), cut(0, 1), cut(0, 1), cut(0, 1), cut(0, 1)),
                         [[0], [0], [1], [2], [3], [-1]])
