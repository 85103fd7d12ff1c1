"""Promise 14: replace."""

import unittest

from tests.helper import (FAR_OUT, PLAIN, author, before_all_after, clock, cut, last, options, paint, pattern,
                          put, replace, replacement, run, shown_after, told_changes_after, told_row_after, track)


def replaced(old, new):
    """What replace answers for a text that is matched as a whole, and the text afterwards."""
    calls = (put(0, old), pattern("".join("\\n" if sign == "\n" else "\\" + sign if not sign.isalnum() else sign
                                          for sign in old)),
             replacement(new.replace("\n", "\\n")), replace(0))
    return last(*calls), shown_after(*calls)


class ReplaceRefusalsTest(unittest.TestCase):

    def test_no_pattern_comes_first(self):
        for p in (0, -1, 1) + FAR_OUT:
            self.assertEqual(last(replace(p)), [-8], p)

    def test_both_ends_of_the_range(self):
        start = (put(0, "aaa"), pattern("a"), replacement("b"))
        self.assertEqual(last(*start, replace(0)), [1, 1, 1])
        self.assertEqual(last(*start, replace(2)), [3, 1, 1])
        self.assertEqual(last(*start, replace(3)), [-4])
        for p in (-1, 4) + FAR_OUT:
            self.assertEqual(last(*start, replace(p)), [-1], p)

    def test_no_match_just_there(self):
        start = (put(0, "bab"), pattern("a"), replacement("c"))
        self.assertEqual(last(*start, replace(0)), [-4])
        self.assertEqual(last(*start, pattern("x{0,1}"), replace(0)), [-4])
        self.assertEqual(last(*start, options(0, 0, 1), replace(1)), [-4])

    def test_replacement_of_2000_signs_and_of_more(self):
        start = (put(0, "a" * 40), pattern("a{40,40}"))
        self.assertEqual(last(*start, replacement("\\0" * 50), replace(0)), [2000, 1960, 0])
        self.assertEqual(last(*start, replacement("\\0" * 50 + "b"), replace(0)), [-5])

    def test_2001_shown_pieces_afterwards_and_more(self):
        start = (put(0, "a" * 1999 + "b"), pattern("b"))
        self.assertEqual(last(*start, replacement("c"), replace(1999)), [2000, 1, 1])
        self.assertEqual(last(*start, replacement("bb"), replace(1999)), [-5])
        self.assertEqual(last(*start, cut(0, 1), replacement("bb"), replace(1998)), [2000, 1, 0])
        self.assertEqual(last(*start, cut(0, 1), replacement("ccc"), replace(1998)), [-5])

    def test_pieces_that_are_not_shown_do_not_count(self):
        calls = (put(0, "a" * 1999 + "b"), track(1), cut(0, 1000), pattern("b"), replacement("c" * 100), replace(999))
        self.assertEqual(last(*calls), [1099, 100, 1])

    def test_a_text_that_is_too_long_already(self):
        start = (put(0, "a" * 2000), put(0, "bbb"), pattern("b@"))
        self.assertEqual(last(*start, replacement(""), replace(0)), [0, 0, 3])
        self.assertEqual(last(*start, replacement("b"), replace(0)), [-5])
        self.assertEqual(last(*start, replacement("\\0"), replace(0)), [-5])

    def test_refused_replace_leaves_everything(self):
        start = (put(0, "a" * 1999 + "b"), track(1), pattern("b"), replacement("bb"))
        for refused in (replace(1999), replace(0), replace(2001), replace(-1)):
            self.assertEqual(told_row_after(*start, refused), told_row_after(*start))
            self.assertEqual(last(*start, refused, put(0, "x")), [1])


class FewestSignsTest(unittest.TestCase):

    def test_nothing_alike(self):
        self.assertEqual(replaced("abc", "xy"), ([2, 2, 3], "xy"))

    def test_alike_at_the_beginning(self):
        self.assertEqual(replaced("abc", "abx"), ([3, 1, 1], "abx"))
        self.assertEqual(replaced("abc", "abcd"), ([4, 1, 0], "abcd"))
        self.assertEqual(replaced("abc", "ab"), ([2, 0, 1], "ab"))

    def test_alike_at_the_end(self):
        self.assertEqual(replaced("abc", "xbc"), ([3, 1, 1], "xbc"))
        self.assertEqual(replaced("abc", "xabc"), ([4, 1, 0], "xabc"))
        self.assertEqual(replaced("abc", "bc"), ([2, 0, 1], "bc"))

    def test_alike_at_both(self):
        self.assertEqual(replaced("abcd", "axyd"), ([4, 2, 2], "axyd"))
        self.assertEqual(replaced("color", "colour"), ([6, 1, 0], "colour"))
        self.assertEqual(replaced("colour", "color"), ([5, 0, 1], "color"))

    def test_the_replacement_is_the_match(self):
        self.assertEqual(replaced("abc", "abc"), ([3, 0, 0], "abc"))

    def test_the_beginning_goes_before_the_end(self):
        self.assertEqual(replaced("aa", "aaa"), ([3, 1, 0], "aaa"))
        self.assertEqual(replaced("aaa", "aa"), ([2, 0, 1], "aa"))
        self.assertEqual(replaced("aba", "a"), ([1, 0, 2], "a"))
        self.assertEqual(replaced("a", "aba"), ([3, 2, 0], "aba"))
        self.assertEqual(replaced("aba", "ababa"), ([5, 2, 0], "ababa"))

    def test_what_is_alike_in_the_midst_is_not_spared(self):
        self.assertEqual(replaced("abc", "xbz"), ([3, 3, 3], "xbz"))

    def test_empty_replacement(self):
        self.assertEqual(replaced("abc", ""), ([0, 0, 3], ""))

    def test_paragraphs_ends(self):
        self.assertEqual(replaced("a\nb", "a\n\nb"), ([4, 1, 0], "a\n\nb"))
        self.assertEqual(replaced("a\nb", "a b"), ([3, 1, 1], "a b"))

    def test_which_of_like_signs_stay(self):
        self.assertEqual([piece[2:4] for piece in told_row_after(put(0, "aa"), track(1), pattern("aa"),
                                                                 replacement("aaa"), replace(0))],
                         [([], []), ([], []), ([1], []), ([], [])])
        self.assertEqual([piece[2:4] for piece in told_row_after(put(0, "aaa"), track(1), pattern("aaa"),
                                                                 replacement("aa"), replace(0))],
                         [([], []), ([], []), ([], [1]), ([], [])])


class ReplaceTest(unittest.TestCase):

    def test_position_behind_the_new_signs(self):
        start = (put(0, "xxaby"), pattern("ab"))
        self.assertEqual(last(*start, replacement("cdefg"), replace(2)), [7, 5, 2])
        self.assertEqual(last(*start, replacement("abc"), replace(2)), [5, 1, 0])
        self.assertEqual(last(*start, replacement("cab"), replace(2)), [5, 1, 0])
        self.assertEqual(last(*start, replacement(""), replace(2)), [2, 0, 2])

    def test_groups_change_places(self):
        calls = (put(0, "on 3/12"), pattern("([0-9]{1,2})/([0-9]{2,2})"), replacement("\\2.\\1"), replace(3))
        self.assertEqual(last(*calls), [7, 4, 4])
        self.assertEqual(shown_after(*calls), "on 12.3")

    def test_untracked_enters_no_change(self):
        calls = (put(0, "ab"), pattern("a"), replacement("x"), replace(0))
        self.assertEqual(told_row_after(*calls), [(120, PLAIN, [], [], []), (98, PLAIN, [], [], []),
                                                  (10, PLAIN, [], [], [])])
        self.assertEqual(told_changes_after(*calls), [])

    def test_tracked_puts_before_what_it_cuts(self):
        calls = (put(0, "abc"), author(4), clock(6), track(1), pattern("b"), replacement("xy"), replace(1))
        self.assertEqual(last(*calls), [3, 2, 1])
        self.assertEqual(told_row_after(*calls), [
            (97, PLAIN, [], [], []), (120, PLAIN, [1], [], []), (121, PLAIN, [1], [], []), (98, PLAIN, [], [2], []),
            (99, PLAIN, [], [], []), (10, PLAIN, [], [], [])])
        self.assertEqual(told_changes_after(*calls), [(4, 6, 1, 2), (4, 6, 2, 1)])

    def test_only_a_put_or_only_a_cut(self):
        start = (put(0, "abc"), track(1), pattern("abc"))
        self.assertEqual(told_changes_after(*start, replacement("abxc"), replace(0)), [(1, 0, 1, 1)])
        self.assertEqual(told_changes_after(*start, replacement("ac"), replace(0)), [(1, 0, 2, 1)])
        self.assertEqual(told_changes_after(*start, replacement("abc"), replace(0)), [])
        self.assertEqual(told_row_after(*start, replacement("abc"), replace(0)), told_row_after(*start))

    def test_own_pieces_go_out(self):
        calls = (track(1), put(0, "abc"), pattern("b"), replacement("x"), replace(1))
        self.assertEqual(last(*calls), [2, 1, 1])
        self.assertEqual([(chr(piece[0]), piece[2], piece[3]) for piece in told_row_after(*calls)],
                         [("a", [1], []), ("x", [2], []), ("c", [1], []), ("\n", [], [])])
        self.assertEqual(told_changes_after(*calls), [(1, 0, 1, 2), (1, 0, 1, 1)])

    def test_own_pieces_among_others(self):
        calls = (put(0, "ad"), track(1), put(1, "b"), author(2), put(2, "c"), pattern("abcd"), replacement("x"),
                 replace(0))
        self.assertEqual(last(*calls), [1, 1, 4])
        self.assertEqual([(chr(piece[0]), piece[2], piece[3]) for piece in told_row_after(*calls)],
                         [("x", [3], []), ("a", [], [4]), ("b", [1], [4]), ("d", [], [4]), ("\n", [], [])])
        self.assertEqual(told_changes_after(*calls), [(1, 0, 1, 1), (2, 0, 1, 0), (2, 0, 1, 1), (2, 0, 2, 3)])

    def test_over_pieces_that_are_not_shown(self):
        calls = (put(0, "ab-cd"), track(1), cut(2, 3), author(2), pattern("bc"), replacement("bxc"), replace(1))
        self.assertEqual(last(*calls), [4, 1, 0])
        self.assertEqual([(chr(piece[0]), piece[2], piece[3]) for piece in told_row_after(*calls)],
                         [("a", [], []), ("b", [], []), ("-", [], [1]), ("x", [2], []), ("c", [], []), ("d", [], []),
                          ("\n", [], [])])

    def test_the_look_is_that_of_the_sign_before(self):
        calls = (put(0, "abc"), paint(0, 1, 0, 1), paint(1, 2, 0, 2), paint(2, 3, 0, 3), pattern("bc"))
        looks = [piece[1][0] for piece in told_row_after(*calls, replacement("xy"), replace(1))]
        self.assertEqual(looks, [1, 1, 1, 0])
        looks = [piece[1][0] for piece in told_row_after(*calls, replacement("bx"), replace(1))]
        self.assertEqual(looks, [1, 2, 2, 0])

    def test_the_look_of_a_paragraphs_end(self):
        calls = (put(0, "ab\nc"), paint(2, 3, 0, 7), paint(4, 5, 0, 9), pattern("?"), replacement("\\n"))
        self.assertEqual([piece[1][0] for piece in told_row_after(*calls, replace(0))], [7, 0, 7, 0, 9])
        self.assertEqual([piece[1][0] for piece in told_row_after(*calls, replace(3))], [0, 0, 7, 9, 9])

    def test_a_paragraphs_end_is_matched_and_its_look_taken_before_it_goes(self):
        calls = (put(0, "a\nb"), paint(1, 2, 0, 7), paint(3, 4, 0, 9), pattern("\\nb"), replacement("x\\n"), replace(1))
        self.assertEqual(last(*calls), [3, 2, 2])
        self.assertEqual([(piece[0], piece[1][0]) for piece in told_row_after(*calls)],
                         [(97, 0), (120, 0), (10, 7), (10, 9)])

    def test_rejected_text_is_the_text_as_it_was(self):
        calls = (put(0, "on 3/12"), track(1), pattern("([0-9])/([0-9]@)"), replacement("\\2.\\1"), replace(3))
        self.assertEqual(before_all_after(*calls), "on 3/12")
        self.assertEqual(shown_after(*calls), "on 12.3")

    def test_one_after_another(self):
        calls = (put(0, "aaa"), track(1), pattern("a"), replacement("bb"), replace(0), replace(2), replace(4))
        self.assertEqual(run(*calls)[-3:], [[2, 2, 1], [4, 2, 1], [6, 2, 1]])
        self.assertEqual(told_changes_after(*calls), [(1, 0, 1, 2), (1, 0, 2, 1)] * 3)

    def test_signs_of_the_text_that_stand_for_others_in_a_pattern(self):
        self.assertEqual(replaced("a*?\\", "a*?/"), ([4, 1, 1], "a*?/"))
