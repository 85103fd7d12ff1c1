"""Promise 5: put."""

import unittest

from tests.helper import (FAR_OUT, HUGE, PLAIN, author, changes_after, cut, last, paint, put, row_after, run,
                          signs_after, track)


class PutRefusalsTest(unittest.TestCase):

    def test_places_in_an_empty_text(self):
        self.assertEqual(last(put(0, "a")), [0])
        for p in (-1, 1) + FAR_OUT:
            self.assertEqual(last(put(p, "a")), [-1], p)

    def test_places_at_both_ends(self):
        self.assertEqual(run(put(0, "abc"), put(3, "d"), put(5, "x"), put(4, "e")), [[0], [0], [-1], [0]])

    def test_pieces_that_are_not_shown_have_no_place(self):
        start = (put(0, "abc"), track(1), cut(0, 2))
        self.assertEqual(last(*start, put(2, "x")), [-1])
        self.assertEqual(last(*start, put(1, "x")), [2])

    def test_no_signs(self):
        self.assertEqual(last(put(0, [])), [-2])

    def test_signs_at_both_ends_of_their_range(self):
        for sign in (10, 32, 126, 65):
            self.assertEqual(last(put(0, [sign])), [0], sign)
        for sign in (9, 11, 31, 127, 0, -1, -10) + FAR_OUT:
            self.assertEqual(last(put(0, [sign])), [-2], sign)
            self.assertEqual(last(put(0, [65, sign])), [-2], sign)
            self.assertEqual(last(put(0, [sign, 65])), [-2], sign)

    def test_place_is_looked_at_first(self):
        self.assertEqual(last(put(1, [])), [-1])
        self.assertEqual(last(put(-1, [HUGE])), [-1])

    def test_refused_put_leaves_everything(self):
        start = (put(0, "ab"), track(1))
        for refused in (put(3, "x"), put(0, []), put(1, [65, 9])):
            self.assertEqual(row_after(*start, refused), row_after(*start))
            self.assertEqual(last(*start, refused, put(0, "x")), [1])

    def test_long_lists(self):
        self.assertEqual(run(put(0, [97] * 2000), put(2000, [98]), put(2002, [98])), [[0], [0], [-1]])
        self.assertEqual(last(put(0, [97] * 1999 + [9])), [-2])


class PutRowTest(unittest.TestCase):

    def test_order_of_the_signs(self):
        self.assertEqual(signs_after(put(0, "ad"), put(1, "bc"), put(4, "ef"), put(0, "<")), "<abcdef\n")

    def test_untracked_pieces(self):
        self.assertEqual(row_after(put(0, "a")), [(97, PLAIN, [], [], []), (10, PLAIN, [], [], [])])

    def test_tracked_pieces_bear_the_one_change(self):
        self.assertEqual(row_after(track(1), put(0, "a\n")),
                         [(97, PLAIN, [1], [], []), (10, PLAIN, [1], [], []), (10, PLAIN, [], [], [])])

    def test_changes_are_numbered_as_they_are_entered(self):
        calls = (track(1), put(0, "a"), put(0, "b"), track(0), put(0, "c"), track(1), put(0, "d"))
        self.assertEqual([answer[0] for answer in run(*calls)], [0, 1, 2, 0, 0, 0, 3])
        self.assertEqual([piece[2] for piece in row_after(*calls)], [[3], [], [2], [1], []])
        self.assertEqual(changes_after(*calls), [(1, 0, 1)] * 3)

    def test_new_pieces_stand_behind_those_that_are_not_shown(self):
        self.assertEqual(signs_after(put(0, "abcd"), track(1), cut(1, 3), put(1, "xy")), "abcxyd\n")

    def test_new_pieces_stand_before_what_is_cut_further_on(self):
        self.assertEqual(signs_after(put(0, "abcd"), track(1), cut(1, 3), put(0, "x")), "xabcd\n")
        self.assertEqual(signs_after(put(0, "ab"), track(1), cut(1, 2), put(1, "x")), "abx\n")

    def test_own_pieces_of_another_put_are_kept_apart(self):
        calls = (track(1), put(0, "ac"), author(2), put(1, "b"))
        self.assertEqual([piece[2] for piece in row_after(*calls)], [[1], [2], [1], []])


class PutLooksTest(unittest.TestCase):

    def look_of(self, place, *calls):
        return row_after(*calls)[place][1]

    def test_plain_at_the_beginning(self):
        self.assertEqual(self.look_of(0, put(0, "a"), paint(0, 2, 1, 7), put(0, "b")), PLAIN)

    def test_look_of_the_piece_before(self):
        self.assertEqual(self.look_of(1, put(0, "ac"), paint(0, 1, 1, 7), paint(1, 2, 1, 8), put(1, "b")), (0, 7, 0, 0))

    def test_all_new_pieces_have_the_look_of_the_piece_before(self):
        calls = (put(0, "a"), paint(0, 1, 1, 7), put(1, "b\nc"))
        self.assertEqual([piece[1] for piece in row_after(*calls)],
                         [(0, 7, 0, 0), (0, 7, 0, 0), PLAIN, (0, 7, 0, 0), PLAIN])

    def test_plain_behind_a_paragraphs_end(self):
        self.assertEqual(self.look_of(2, put(0, "a\n"), paint(0, 2, 1, 7), put(2, "b")), PLAIN)

    def test_look_as_shown_and_not_the_own_look(self):
        calls = (put(0, "a"), track(1), paint(0, 1, 2, 9), put(1, "b"))
        self.assertEqual(row_after(*calls)[:2], [(97, PLAIN, [], [], [(1, 2, 9)]), (98, (0, 0, 9, 0), [2], [], [])])

    def test_last_of_several_pending_looks(self):
        calls = (put(0, "a"), track(1), paint(0, 1, 2, 9), paint(0, 1, 0, 3), paint(0, 1, 2, 8), put(1, "b"))
        self.assertEqual(self.look_of(1, *calls), (3, 0, 8, 0))

    def test_pieces_that_are_not_shown_give_no_look(self):
        calls = (put(0, "abc"), paint(0, 1, 0, 1), paint(1, 2, 0, 2), track(1), cut(1, 2), put(1, "x"))
        self.assertEqual(self.look_of(2, *calls), (1, 0, 0, 0))
        calls = (put(0, "a\nb"), paint(0, 1, 0, 1), track(1), cut(1, 2), put(1, "x"))
        self.assertEqual(self.look_of(2, *calls), (1, 0, 0, 0))

    def test_paragraphs_end_takes_the_look_of_the_end_behind(self):
        start = (put(0, "ab\ncd"), paint(2, 3, 3, 4), paint(5, 6, 3, 5))
        self.assertEqual(self.look_of(1, *start, put(1, "\n")), (0, 0, 0, 4))
        self.assertEqual(self.look_of(2, *start, put(2, "\n")), (0, 0, 0, 4))
        self.assertEqual(self.look_of(3, *start, put(3, "\n")), (0, 0, 0, 5))
        self.assertEqual(self.look_of(5, *start, put(5, "\n")), (0, 0, 0, 5))

    def test_paragraphs_end_takes_the_look_as_shown(self):
        self.assertEqual(self.look_of(0, track(1), paint(0, 1, 3, 4), put(0, "\n")), (0, 0, 0, 4))

    def test_paragraphs_end_passes_over_ends_that_are_not_shown(self):
        calls = (put(0, "a\nb"), paint(1, 2, 3, 4), paint(3, 4, 3, 5), track(1), cut(1, 2), put(0, "\n"))
        self.assertEqual(self.look_of(0, *calls), (0, 0, 0, 5))

    def test_new_ends_are_left_out(self):
        calls = (paint(0, 1, 3, 4), put(0, "\nx\n"))
        self.assertEqual([piece[1] for piece in row_after(*calls)], [(0, 0, 0, 4), PLAIN, (0, 0, 0, 4), (0, 0, 0, 4)])

    def test_looks_are_not_shared_afterwards(self):
        calls = (put(0, "ab"), paint(0, 1, 0, 1))
        self.assertEqual([piece[1] for piece in row_after(*calls)], [(1, 0, 0, 0), PLAIN, PLAIN])
