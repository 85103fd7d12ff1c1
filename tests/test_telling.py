"""Promises 17 to 19: text, row and change."""

import unittest

from tests.helper import (FAR_OUT, author, change, clock, cut, editor_after, last, paint, paintall, pattern, put,
                          replace, replaceall, replacement, row, row_after, run, text, told_row_after, track)


class TextTest(unittest.TestCase):

    def test_outside_the_range(self):
        for w in (0, 3, -1) + FAR_OUT:
            self.assertEqual(last(text(w)), [-2], w)

    def test_at_the_beginning(self):
        self.assertEqual(run(text(1), text(2)), [[1, 10, 0, 0, 0, 0]] * 2)

    def test_signs_and_looks(self):
        calls = (put(0, "a\n"), paint(0, 1, 0, 1), paint(0, 2, 1, 2), paint(2, 3, 3, 99))
        expected = [3, 97, 1, 2, 0, 0, 10, 0, 2, 0, 0, 10, 0, 0, 0, 99]
        self.assertEqual(run(*calls, text(1), text(2))[-2:], [expected, expected])

    def test_1_has_what_is_shown_as_it_is_shown(self):
        calls = (put(0, "abc"), track(1), cut(0, 1), put(0, "x"), paint(0, 2, 2, 8), author(2), paint(0, 1, 2, 9))
        self.assertEqual(last(*calls, text(1)), [4, 120, 0, 0, 9, 0, 98, 0, 0, 8, 0, 99, 0, 0, 0, 0, 10, 0, 0, 0, 0])

    def test_2_has_what_has_no_insertions_in_its_own_look(self):
        calls = (put(0, "abc"), paint(1, 2, 0, 3), track(1), cut(0, 1), put(0, "x"), paint(1, 3, 2, 8),
                 paint(1, 2, 0, 1))
        self.assertEqual(last(*calls, text(2)), [4, 97, 0, 0, 0, 0, 98, 3, 0, 0, 0, 99, 0, 0, 0, 0, 10, 0, 0, 0, 0])

    def test_untracked_changes_are_in_both(self):
        calls = (put(0, "abc"), cut(0, 1), put(0, "x"))
        self.assertEqual(last(*calls, text(1)), last(*calls, text(2)))

    def test_after_replaceall_and_paintall(self):
        calls = (put(0, "aba"), track(1), pattern("a"), replacement("c"), replaceall(0, 3), pattern("?"),
                 paintall(0, 3, 0, 5))
        self.assertEqual(last(*calls, text(1)), [4, 99, 5, 0, 0, 0, 98, 5, 0, 0, 0, 99, 5, 0, 0, 0, 10, 0, 0, 0, 0])
        self.assertEqual(last(*calls, text(2)), [4, 97, 0, 0, 0, 0, 98, 0, 0, 0, 0, 97, 0, 0, 0, 0, 10, 0, 0, 0, 0])

    def test_changes_nothing(self):
        start = (put(0, "abc"), track(1), cut(0, 1))
        self.assertEqual(row_after(*start, text(1), text(2), text(3), row(), change(1)), row_after(*start))


class RowTest(unittest.TestCase):

    def test_at_the_beginning(self):
        self.assertEqual(last(row()), [1, 10, 0, 0, 0, 0, 0, 0, 0])

    def test_number_by_number(self):
        calls = (put(0, "a"), paint(0, 1, 1, 7), track(1), put(1, "b"), author(2), paint(0, 2, 0, 3), paint(0, 2, 2, 4),
                 cut(1, 2), row())
        self.assertEqual(last(*calls), [3,
                                        97, 0, 7, 0, 0, 0, 0, 2, 2, 0, 3, 3, 2, 4,
                                        98, 0, 7, 0, 0, 1, 1, 1, 4, 2, 2, 0, 3, 3, 2, 4,
                                        10, 0, 0, 0, 0, 0, 0, 0])

    def test_pending_looks_in_the_order_in_which_they_were_added(self):
        calls = (put(0, "a"), track(1), paint(0, 1, 3, 1), paint(0, 1, 0, 2), paint(0, 1, 3, 9), paint(0, 1, 0, 0),
                 row())
        self.assertEqual(last(*calls), [2,
                                        97, 0, 0, 0, 0, 0, 0, 4, 1, 3, 1, 2, 0, 2, 3, 3, 9, 4, 0, 0,
                                        10, 0, 0, 0, 0, 0, 0, 0])

    def test_own_look_beside_pending_ones(self):
        calls = (put(0, "a"), paint(0, 2, 0, 6), track(1), paint(0, 2, 0, 7), row())
        self.assertEqual(last(*calls), [2, 97, 6, 0, 0, 0, 0, 0, 1, 1, 0, 7, 10, 6, 0, 0, 0, 0, 0, 1, 1, 0, 7])

    def test_pieces_that_are_not_shown_are_told_in_their_places(self):
        calls = (put(0, "abc"), track(1), cut(0, 2), put(0, "x"), put(2, "y"))
        self.assertEqual([(chr(piece[0]), piece[2], piece[3]) for piece in told_row_after(*calls)],
                         [("a", [], [1]), ("b", [], [1]), ("x", [2], []), ("c", [], []), ("y", [3], []),
                          ("\n", [], [])])

    def test_row_as_the_document_keeps_it(self):
        calls = (put(0, "abcab"), track(1), pattern("b"), replacement("xx"), replace(1), author(2), replaceall(0, 6),
                 pattern("[abx]@"), paintall(0, 6, 1, 2), track(0), paintall(0, 2, 1, 3))
        self.assertEqual(told_row_after(*calls), row_after(*calls))


class ChangeTest(unittest.TestCase):

    def test_both_ends_of_the_range(self):
        self.assertEqual(last(change(1)), [-4])
        start = (track(1), put(0, "a"), put(0, "bb"))
        self.assertEqual(last(*start, change(1)), [1, 0, 1, 1])
        self.assertEqual(last(*start, change(2)), [1, 0, 1, 2])
        for c in (0, 3, -1) + FAR_OUT:
            self.assertEqual(last(*start, change(c)), [-4], c)

    def test_author_time_and_kind_when_it_was_entered(self):
        calls = (put(0, "abc"), track(1), author(4), clock(10 ** 18), put(0, "x"), author(5), cut(1, 2), author(99),
                 paint(1, 2, 0, 1), author(7), track(0))
        self.assertEqual(run(*calls, change(1), change(2), change(3))[-3:],
                         [[4, 10 ** 18, 1, 1], [5, 10 ** 18, 2, 1], [99, 10 ** 18, 3, 1]])

    def test_pieces_that_are_not_shown_bear_changes_too(self):
        calls = (track(1), put(0, "abc"), author(2), cut(0, 2))
        self.assertEqual(run(*calls, change(1), change(2))[-2:], [[1, 0, 1, 3], [2, 0, 2, 2]])

    def test_pieces_that_went_out_bear_nothing(self):
        calls = (track(1), put(0, "abc"), author(2), paint(0, 2, 0, 1), author(1), cut(1, 3))
        self.assertEqual(run(*calls, change(1), change(2))[-2:], [[1, 0, 1, 1], [2, 0, 3, 1]])
        self.assertEqual(run(*calls, track(0), cut(0, 1), change(1), change(2), change(3))[-3:],
                         [[1, 0, 1, 0], [2, 0, 3, 0], [-4]])

    def test_pending_looks_that_went(self):
        start = (put(0, "ab"), track(1), paint(0, 2, 0, 1), paint(0, 2, 0, 2), paint(0, 2, 1, 3))
        changes = (change(1), change(2), change(3))
        self.assertEqual(run(*start, *changes)[-3:], [[1, 0, 3, 2]] * 3)
        self.assertEqual(run(*start, track(0), paint(0, 1, 0, 9), *changes)[-3:],
                         [[1, 0, 3, 1], [1, 0, 3, 1], [1, 0, 3, 2]])

    def test_last_end_bears_paints(self):
        self.assertEqual(last(put(0, "a"), track(1), paint(0, 2, 0, 1), change(1)), [1, 0, 3, 2])

    def test_entered_by_replaceall_and_paintall(self):
        calls = (put(0, "aa"), track(1), pattern("a"), replacement("bc"), replaceall(0, 2), author(2), pattern("b"),
                 paintall(0, 4, 0, 1))
        self.assertEqual([last(*calls, change(number)) for number in range(1, 8)],
                         [[1, 0, 1, 2], [1, 0, 2, 1], [1, 0, 1, 2], [1, 0, 2, 1], [2, 0, 3, 1], [2, 0, 3, 1], [-4]])

    def test_counts_are_those_of_the_row(self):
        calls = (put(0, "abab"), track(1), put(2, "ab"), author(2), pattern("a"), paintall(0, 6, 0, 1),
                 replacement("xa"), replaceall(0, 6), pattern("xa"), paintall(1, 9, 0, 2), author(1), replacement(""),
                 replaceall(0, 5))
        told = told_row_after(*calls)
        entered = len(editor_after(*calls).document.changes)
        for number in range(1, entered + 1):
            bearing = [piece for piece in told if number in piece[2] + piece[3] + [entry[0] for entry in piece[4]]]
            self.assertEqual(last(*calls, change(number))[3], len(bearing), number)
        self.assertGreater(entered, 9)
