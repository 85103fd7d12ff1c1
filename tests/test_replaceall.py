"""Promise 15: replaceall."""

import unittest

from tests.helper import (FAR_OUT, HUGE, author, before_all_after, clock, cut, last, options, paint, pattern, put,
                          replaceall, replacement, run, shown_after, told_changes_after, told_row_after, track)


def signs_and_lists(*calls):
    return [(chr(piece[0]), piece[2], piece[3]) for piece in told_row_after(*calls)]


class ReplaceallRefusalsTest(unittest.TestCase):

    def test_no_pattern_comes_first(self):
        for p, q in ((0, 0), (0, 1), (-1, 0), (1, 0), FAR_OUT):
            self.assertEqual(last(replaceall(p, q)), [-8], (p, q))

    def test_both_ends_of_the_range(self):
        start = (put(0, "aaa"), pattern("a"), replacement("b"))
        for p, q in ((-1, 3), (0, 4), (2, 1), (3, 2), (4, 4), (0, -1), (-HUGE, 3), (0, HUGE), (HUGE, -HUGE), FAR_OUT):
            self.assertEqual(last(*start, replaceall(p, q)), [-1], (p, q))
        self.assertEqual(last(*start, replaceall(0, 3)), [3, 3, 3])
        self.assertEqual(last(*start, replaceall(3, 3)), [0, 0, 0])
        self.assertEqual(last(*start, replaceall(0, 0)), [0, 0, 0])

    def test_replacement_of_2000_signs_and_of_more(self):
        start = (put(0, "a" * 40), pattern("a{40,40}"))
        self.assertEqual(last(*start, replacement("\\0" * 50), replaceall(0, 40)), [1, 1960, 0])
        self.assertEqual(last(*start, replacement("\\0" * 50 + "b"), replaceall(0, 40)), [-5])
        self.assertEqual(last(*start, replacement("\\0" * 100), replaceall(0, 40)), [-5])

    def test_one_of_several_replacements_is_too_long(self):
        start = (put(0, "aa" + "b" * 50), pattern("[ab]{1,2}[b]{0,48}"), replacement("\\0" * 42))
        self.assertEqual(last(*start, replaceall(0, 44)), [1, 1804, 0])
        self.assertEqual(last(*start, replaceall(0, 52)), [-5])

    def test_2001_shown_pieces_afterwards_and_more(self):
        start = (put(0, "a" * 1000), pattern("a"))
        self.assertEqual(last(*start, replacement("bb"), replaceall(0, 1000)), [1000, 2000, 1000])
        self.assertEqual(last(*start, put(0, "b"), replacement("bb"), replaceall(0, 1001)), [-5])
        self.assertEqual(last(*start, put(0, "b"), replacement("bb"), replaceall(0, 1000)), [999, 1998, 999])
        self.assertEqual(last(*start, replacement("bbb"), replaceall(0, 500)), [500, 1500, 500])
        self.assertEqual(last(*start, replacement("bbb"), replaceall(0, 501)), [-5])

    def test_pieces_that_are_not_shown_do_not_count(self):
        calls = (put(0, "a" * 2000), track(1), pattern("a"), replacement("b"), replaceall(0, 2000))
        self.assertEqual(last(*calls), [2000, 2000, 2000])
        self.assertEqual(len(told_row_after(*calls)), 4001)

    def test_a_text_that_is_too_long_already(self):
        start = (put(0, "a" * 1999 + "b"), put(0, "bb"), pattern("b"))
        self.assertEqual(last(*start, replacement(""), replaceall(0, 2)), [2, 0, 2])
        self.assertEqual(last(*start, replacement(""), replaceall(0, 1)), [-5])
        self.assertEqual(last(*start, replacement(""), pattern("c"), replaceall(0, 2002)), [-5])

    def test_refused_replaceall_leaves_everything(self):
        start = (put(0, "a" * 1000 + "b"), track(1), pattern("a"), replacement("bb"))
        for refused in (replaceall(0, 1001), replaceall(0, 1002), replaceall(-1, 5)):
            self.assertEqual(last(*start, refused)[0] < 0, True)
            self.assertEqual(told_row_after(*start, refused), told_row_after(*start))
            self.assertEqual(last(*start, refused, put(0, "x")), [1])


class ReplaceallTest(unittest.TestCase):

    def test_all_matches(self):
        calls = (put(0, "a b a"), pattern("a"), replacement("xyz"), replaceall(0, 5))
        self.assertEqual(last(*calls), [2, 6, 2])
        self.assertEqual(shown_after(*calls), "xyz b xyz")

    def test_no_matches(self):
        calls = (put(0, "abc"), track(1), pattern("d"), replacement("x"), replaceall(0, 3))
        self.assertEqual(last(*calls), [0, 0, 0])
        self.assertEqual(told_changes_after(*calls), [])
        self.assertEqual(last(pattern("d"), replaceall(0, 0)), [0, 0, 0])

    def test_from_p_to_q_alone(self):
        start = (put(0, "aaaaa"), pattern("aa"), replacement("b"))
        self.assertEqual(shown_after(*start, replaceall(1, 4)), "abaa")
        self.assertEqual(shown_after(*start, replaceall(1, 5)), "abb")
        self.assertEqual(shown_after(*start, pattern("a@"), replaceall(1, 3)), "abaa")

    def test_limit_within_a_word(self):
        start = (put(0, "ab ab"), pattern("a@b>"), replacement("x"))
        self.assertEqual(shown_after(*start, replaceall(0, 4)), "x ab")
        self.assertEqual(shown_after(*start, pattern("<a"), replaceall(1, 4)), "ab xb")

    def test_each_by_the_replacement_for_it(self):
        calls = (put(0, "a1 b2"), pattern("([a-z])([0-9])"), replacement("\\2\\1\\1"), replaceall(0, 5))
        self.assertEqual(last(*calls), [2, 6, 4])
        self.assertEqual(shown_after(*calls), "1aa 2bb")

    def test_new_signs_are_not_matched_again(self):
        self.assertEqual(shown_after(put(0, "aa"), pattern("a"), replacement("aa"), replaceall(0, 2)), "aaaa")
        self.assertEqual(shown_after(put(0, "aab"), pattern("ab"), replacement("b"), replaceall(0, 3)), "ab")

    def test_words_are_those_of_the_text_before(self):
        self.assertEqual(shown_after(put(0, "a a"), pattern("<a"), replacement("a."), replaceall(0, 3)), "a. a.")
        self.assertEqual(shown_after(put(0, "ab b"), pattern("b>"), replacement(" "), replaceall(0, 4)), "a   ")

    def test_looks_asked_for_are_those_of_the_text_before(self):
        start = (put(0, "aab"), paint(0, 2, 0, 1), options(0, 0, 1), pattern("a"), replacement("x"))
        self.assertEqual(shown_after(*start, replaceall(0, 3)), "xxb")

    def test_signs_alike_are_spared_in_each(self):
        calls = (put(0, "color colour"), track(1), pattern("colou{0,1}r"), replacement("colour"), replaceall(0, 12))
        self.assertEqual(last(*calls), [2, 1, 0])
        self.assertEqual(shown_after(*calls), "colour colour")
        self.assertEqual(told_changes_after(*calls), [(1, 0, 1, 1)])

    def test_matches_that_are_their_replacement(self):
        calls = (put(0, "abab"), track(1), pattern("ab"), replacement("\\0"), replaceall(0, 4))
        self.assertEqual(last(*calls), [2, 0, 0])
        self.assertEqual(told_changes_after(*calls), [])

    def test_paragraphs_ends(self):
        calls = (put(0, "a\n\nb\nc"), pattern("\\n@"), replacement("\\n"), replaceall(0, 6))
        self.assertEqual(last(*calls), [2, 0, 1])
        self.assertEqual(shown_after(*calls), "a\nb\nc")
        self.assertEqual(shown_after(*calls, pattern("\\n"), replacement(" "), replaceall(0, 5)), "a b c")
        self.assertEqual(shown_after(put(0, "a,b,c"), pattern(","), replacement("\\n"), replaceall(0, 5)), "a\nb\nc")

    def test_taking_out(self):
        calls = (put(0, "a  b  c"), track(1), pattern("( ) "), replacement("\\1"), replaceall(0, 7))
        self.assertEqual(last(*calls), [2, 0, 2])
        self.assertEqual(shown_after(*calls), "a b c")
        self.assertEqual(before_all_after(*calls), "a  b  c")


class TrackedReplaceallTest(unittest.TestCase):

    def test_changes_are_entered_from_the_last_match_to_the_first(self):
        calls = (put(0, "aa"), author(3), clock(8), track(1), pattern("a"), replacement("bc"), replaceall(0, 2))
        self.assertEqual(last(*calls), [2, 4, 2])
        self.assertEqual(signs_and_lists(*calls), [("b", [3], []), ("c", [3], []), ("a", [], [4]), ("b", [1], []),
                                                   ("c", [1], []), ("a", [], [2]), ("\n", [], [])])
        self.assertEqual(told_changes_after(*calls), [(3, 8, 1, 2), (3, 8, 2, 1)] * 2)

    def test_only_what_bears_a_change_enters_one(self):
        calls = (put(0, "b b "), track(1), put(1, "a"), put(4, "aa"), pattern("ba@"), replacement("b"),
                 replaceall(0, 7))
        self.assertEqual(last(*calls), [2, 0, 3])
        self.assertEqual(signs_and_lists(*calls), [("b", [], []), (" ", [], []), ("b", [], []), (" ", [], []),
                                                   ("\n", [], [])])
        self.assertEqual(told_changes_after(*calls), [(1, 0, 1, 0), (1, 0, 1, 0)])
        self.assertEqual(last(*calls, put(0, "x")), [3])

    def test_own_pieces_pieces_of_others_and_pieces_without_insertions(self):
        calls = (put(0, "a"), track(1), put(1, "a"), author(2), put(2, "a"), pattern("a"), replacement("b"),
                 replaceall(0, 3))
        self.assertEqual(last(*calls), [3, 3, 3])
        self.assertEqual(signs_and_lists(*calls), [("b", [6], []), ("a", [], [7]), ("b", [4], []), ("a", [1], [5]),
                                                   ("b", [3], []), ("\n", [], [])])
        self.assertEqual(told_changes_after(*calls), [
            (1, 0, 1, 1), (2, 0, 1, 0), (2, 0, 1, 1), (2, 0, 1, 1), (2, 0, 2, 1), (2, 0, 1, 1), (2, 0, 2, 1)])

    def test_untracked_takes_all_out(self):
        calls = (put(0, "a"), track(1), put(1, "a"), author(2), put(2, "a"), track(0), pattern("a"), replacement("b"),
                 replaceall(0, 3))
        self.assertEqual(signs_and_lists(*calls), [("b", [], [])] * 3 + [("\n", [], [])])
        self.assertEqual(told_changes_after(*calls), [(1, 0, 1, 0), (2, 0, 1, 0)])

    def test_pieces_that_are_not_shown_stay_where_they_are(self):
        start = (put(0, "a-a-"), track(1), cut(1, 2), cut(2, 3), author(2), pattern("a"), replacement("b"))
        self.assertEqual(last(*start, replaceall(0, 2)), [2, 2, 2])
        self.assertEqual(signs_and_lists(*start, replaceall(0, 2)),
                         [("b", [5], []), ("a", [], [6]), ("-", [], [1]), ("b", [3], []), ("a", [], [4]),
                          ("-", [], [2]), ("\n", [], [])])
        self.assertEqual(signs_and_lists(*start, track(0), replaceall(0, 2)),
                         [("b", [], []), ("-", [], [1]), ("b", [], []), ("-", [], [2]), ("\n", [], [])])

    def test_a_match_over_pieces_that_are_not_shown(self):
        calls = (put(0, "a--b"), track(1), cut(1, 3), author(2), pattern("ab"), replacement("a+b"), replaceall(0, 2))
        self.assertEqual(signs_and_lists(*calls), [("a", [], []), ("-", [], [1]), ("-", [], [1]), ("+", [2], []),
                                                   ("b", [], []), ("\n", [], [])])

    def test_what_one_author_replaced_another_replaces(self):
        calls = (put(0, "a"), track(1), pattern("?"), replacement("b"), replaceall(0, 1), author(2), replacement("c"),
                 replaceall(0, 1), replacement("d"), replaceall(0, 1))
        self.assertEqual(run(*calls)[-1], [1, 1, 1])
        self.assertEqual(signs_and_lists(*calls), [("d", [5], []), ("b", [1], [4]), ("a", [], [2]), ("\n", [], [])])
        self.assertEqual(told_changes_after(*calls), [(1, 0, 1, 1), (1, 0, 2, 1), (2, 0, 1, 0), (2, 0, 2, 1),
                                                      (2, 0, 1, 1)])

    def test_looks_of_new_signs(self):
        calls = (put(0, "abab"), paint(0, 1, 0, 1), paint(1, 2, 0, 2), paint(2, 3, 0, 3), paint(3, 4, 0, 4), track(1),
                 paint(2, 3, 1, 9), pattern("b"), replacement("xy"), replaceall(0, 4))
        self.assertEqual([(chr(piece[0]), piece[1]) for piece in told_row_after(*calls)], [
            ("a", (1, 0, 0, 0)), ("x", (1, 0, 0, 0)), ("y", (1, 0, 0, 0)), ("b", (2, 0, 0, 0)),
            ("a", (3, 0, 0, 0)), ("x", (3, 9, 0, 0)), ("y", (3, 9, 0, 0)), ("b", (4, 0, 0, 0)), ("\n", (0, 0, 0, 0))])

    def test_looks_of_matches_side_by_side(self):
        calls = (put(0, "aaa"), paint(0, 1, 0, 1), paint(1, 2, 0, 2), paint(2, 3, 0, 3), pattern("a"),
                 replacement("x"), replaceall(0, 3))
        self.assertEqual([piece[1][0] for piece in told_row_after(*calls)], [0, 1, 2, 0])

    def test_look_of_a_new_paragraphs_end_is_that_of_the_next_one(self):
        calls = (put(0, "a,b,"), paint(4, 5, 0, 6), pattern(","), replacement("\\n"), replaceall(0, 4))
        self.assertEqual([(piece[0], piece[1][0]) for piece in told_row_after(*calls)],
                         [(97, 0), (10, 6), (98, 0), (10, 6), (10, 6)])
