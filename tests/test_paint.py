"""Promise 7: paint."""

import unittest

from tests.helper import (FAR_OUT, HUGE, PLAIN, author, changes_after, clock, cut, editor_after, last, paint, put,
                          row_after, run, track)


class PaintRefusalsTest(unittest.TestCase):

    def test_both_ends_of_the_places(self):
        self.assertEqual(last(put(0, "abc"), paint(0, 4, 0, 1)), [0])
        for p, q in ((0, 5), (-1, 3), (2, 2), (2, 1), (4, 5), (4, 4), (0, HUGE), (-HUGE, 3), FAR_OUT):
            self.assertEqual(last(put(0, "abc"), paint(p, q, 0, 1)), [-1], (p, q))

    def test_last_end_may_be_painted(self):
        self.assertEqual(row_after(paint(0, 1, 3, 99)), [(10, (0, 0, 0, 99), [], [], [])])
        self.assertEqual(row_after(track(1), paint(0, 1, 3, 99)), [(10, PLAIN, [], [], [(1, 3, 99)])])

    def test_both_ends_of_the_properties(self):
        for k in (0, 1, 2, 3):
            self.assertEqual(last(track(1), paint(0, 1, k, 5)), [1], k)
        for k in (-1, 4) + FAR_OUT:
            self.assertEqual(last(paint(0, 1, k, 5)), [-2], k)

    def test_both_ends_of_the_values(self):
        for v in (0, 99):
            self.assertEqual(last(paint(0, 1, 0, v)), [0], v)
        for v in (-1, 100) + FAR_OUT:
            self.assertEqual(last(paint(0, 1, 0, v)), [-2], v)

    def test_places_are_looked_at_first(self):
        self.assertEqual(last(paint(0, 2, 4, 100)), [-1])
        self.assertEqual(last(paint(0, 0, -1, 0)), [-1])

    def test_refused_paint_leaves_everything(self):
        start = (put(0, "abc"), track(1), paint(0, 2, 0, 1))
        for refused in (paint(0, 5, 0, 2), paint(0, 3, 4, 2), paint(0, 3, 0, 100)):
            self.assertEqual(row_after(*start, refused), row_after(*start))
            self.assertEqual(last(*start, refused, paint(0, 3, 0, 2)), [2])


class PaintTest(unittest.TestCase):

    def test_untracked_changes_the_own_look(self):
        calls = (put(0, "abc"), paint(0, 2, 1, 5), paint(1, 3, 3, 6))
        self.assertEqual([piece[1] for piece in row_after(*calls)],
                         [(0, 5, 0, 0), (0, 5, 0, 6), (0, 0, 0, 6), PLAIN])
        self.assertEqual(last(*calls), [0])

    def test_tracked_adds_a_pending_look(self):
        calls = (put(0, "ab"), author(4), clock(6), track(1), paint(0, 1, 1, 5))
        self.assertEqual(last(*calls), [1])
        self.assertEqual(row_after(*calls)[:2], [(97, PLAIN, [], [], [(1, 1, 5)]), (98, PLAIN, [], [], [])])
        self.assertEqual(changes_after(*calls), [(4, 6, 3)])

    def test_pending_looks_are_added_behind(self):
        calls = (put(0, "a"), track(1), paint(0, 1, 1, 5), paint(0, 1, 0, 4), paint(0, 1, 1, 6))
        self.assertEqual(row_after(*calls)[0][4], [(1, 1, 5), (2, 0, 4), (3, 1, 6)])

    def test_paint_that_changes_nothing(self):
        self.assertEqual(last(put(0, "a"), track(1), paint(0, 2, 0, 0)), [0])
        self.assertEqual(run(put(0, "a"), track(1), paint(0, 1, 0, 1), paint(0, 1, 0, 1), paint(0, 1, 0, 2)),
                         [[0], [0], [1], [0], [2]])

    def test_look_as_shown_counts_and_not_the_own_look(self):
        calls = (put(0, "a"), track(1), paint(0, 1, 0, 1), paint(0, 1, 0, 0))
        self.assertEqual(last(*calls), [2])
        self.assertEqual(row_after(*calls)[0][4], [(1, 0, 1), (2, 0, 0)])

    def test_only_pieces_that_look_otherwise_are_painted(self):
        calls = (put(0, "abc"), paint(1, 2, 0, 7), track(1), paint(0, 3, 0, 7))
        self.assertEqual(last(*calls), [1])
        self.assertEqual([piece[4] for piece in row_after(*calls)], [[(1, 0, 7)], [], [(1, 0, 7)], []])

    def test_own_pieces_are_painted_at_once(self):
        calls = (track(1), put(0, "a"), paint(0, 1, 0, 7))
        self.assertEqual(last(*calls), [0])
        self.assertEqual(row_after(*calls)[0], (97, (7, 0, 0, 0), [1], [], []))

    def test_pieces_of_another_author_are_not(self):
        calls = (track(1), put(0, "a"), author(2), paint(0, 1, 0, 7))
        self.assertEqual(last(*calls), [2])
        self.assertEqual(row_after(*calls)[0], (97, PLAIN, [1], [], [(2, 0, 7)]))

    def test_own_and_other_pieces_together(self):
        calls = (put(0, "a"), track(1), put(1, "b"), paint(0, 3, 2, 7))
        self.assertEqual(last(*calls), [2])
        self.assertEqual(row_after(*calls), [(97, PLAIN, [], [], [(2, 2, 7)]), (98, (0, 0, 7, 0), [1], [], []),
                                             (10, PLAIN, [], [], [(2, 2, 7)])])

    def test_painting_an_own_piece_takes_its_pending_looks_of_that_property(self):
        calls = (track(1), put(0, "a"), author(2), paint(0, 1, 0, 7), paint(0, 1, 1, 8), paint(0, 1, 0, 9),
                 author(1), paint(0, 1, 0, 5))
        self.assertEqual(last(*calls), [0])
        self.assertEqual(row_after(*calls)[0], (97, (5, 0, 0, 0), [1], [], [(3, 1, 8)]))

    def test_untracked_takes_the_pending_looks_of_that_property(self):
        calls = (put(0, "a"), track(1), paint(0, 1, 0, 7), paint(0, 1, 1, 8), track(0), paint(0, 1, 0, 0))
        self.assertEqual(row_after(*calls)[0], (97, PLAIN, [], [], [(2, 1, 8)]))

    def test_look_as_shown_after_pending_looks_went(self):
        calls = (put(0, "a"), track(1), paint(0, 1, 0, 7), track(0), paint(0, 1, 0, 3), track(1))
        self.assertEqual(last(*calls, paint(0, 1, 0, 3)), [0])
        self.assertEqual(last(*calls, paint(0, 1, 0, 7)), [2])
        self.assertEqual(last(*calls, paint(0, 1, 0, 0)), [2])

    def test_pieces_that_are_not_shown_are_not_painted(self):
        calls = (put(0, "abc"), track(1), cut(1, 2), track(0), paint(0, 3, 0, 7))
        self.assertEqual([piece[1][0] for piece in row_after(*calls)], [7, 0, 7, 7])

    def test_signs_and_places_stay(self):
        calls = (put(0, "ab"), track(1), paint(0, 3, 0, 7))
        self.assertEqual([piece.sign for piece in editor_after(*calls).document.shown], [97, 98, 10])
