"""Promise 12: match, with its groups and the replacement for it."""

import unittest

from tests.helper import (FAR_OUT, codes, cut, last, match, options, paint, pattern, put, replacement, row_after, run,
                          track)


class MatchRefusalsTest(unittest.TestCase):

    def test_no_pattern_comes_first(self):
        for p in (0, -1, 1) + FAR_OUT:
            self.assertEqual(last(match(p)), [-8], p)

    def test_both_ends_of_the_range(self):
        start = (put(0, "aaa"), pattern("a"))
        self.assertEqual(last(*start, match(0)), [1, 0, 0])
        self.assertEqual(last(*start, match(2)), [3, 0, 0])
        self.assertEqual(last(*start, match(3)), [-4])
        for p in (-1, 4) + FAR_OUT:
            self.assertEqual(last(*start, match(p)), [-1], p)

    def test_no_match_just_there(self):
        start = (put(0, "bab"), pattern("a"))
        self.assertEqual([last(*start, match(p)) for p in range(4)], [[-4], [2, 0, 0], [-4], [-4]])
        self.assertEqual(last(pattern("a"), match(0)), [-4])

    def test_a_match_of_no_length(self):
        self.assertEqual(last(put(0, "b"), pattern("a{0,1}"), match(0)), [-4])

    def test_a_property_that_a_part_does_not_show(self):
        start = (put(0, "aa"), paint(0, 1, 0, 1), options(0, 0, 1))
        self.assertEqual(last(*start, pattern("a"), match(0)), [1, 0, 0])
        self.assertEqual(last(*start, pattern("aa"), match(0)), [-4])

    def test_replacement_of_2000_signs_and_of_more(self):
        start = (put(0, "ab" * 20), pattern("?{40,40}"))
        self.assertEqual(last(*start, replacement("\\0" * 50), match(0)), [40, 0, 2000] + codes("ab" * 1000))
        self.assertEqual(last(*start, replacement("\\0" * 50 + "c"), match(0)), [-5])
        self.assertEqual(last(*start, replacement("\\0" * 100), match(0)), [-5])

    def test_no_match_comes_before_a_long_replacement(self):
        start = (put(0, "a" * 40), pattern("?{40,40}"), replacement("\\0" * 51))
        self.assertEqual(run(*start, match(-1), match(41), match(1), match(0))[-4:], [[-1], [-1], [-4], [-5]])


class GroupsTest(unittest.TestCase):

    def test_each_groups_beginning_and_end(self):
        self.assertEqual(last(put(0, "x12-3"), pattern("([0-9]@)-([0-9]@)"), match(1)), [5, 2, 1, 3, 4, 5, 0])

    def test_no_groups(self):
        self.assertEqual(last(put(0, "ab"), pattern("ab"), match(0)), [2, 0, 0])

    def test_groups_that_hold_nothing(self):
        self.assertEqual(last(put(0, "b"), pattern("(a{0,1})b(*)"), replacement("[\\1\\2]"), match(0)),
                         [1, 2, 0, 0, 1, 1, 2] + codes("[]"))
        self.assertEqual(last(put(0, "ab"), pattern("(<)a(b)(>)"), match(0)), [2, 3, 0, 0, 1, 2, 2, 2, 0])

    def test_nine_groups(self):
        start = (put(0, "123456789"), pattern("".join(f"({digit})" for digit in "123456789")))
        places = [number for at in range(9) for number in (at, at + 1)]
        self.assertEqual(last(*start, replacement("\\9\\8\\7\\6\\5\\4\\3\\2\\1"), match(0)),
                         [9, 9] + places + [9] + codes("987654321"))

    def test_items_around_groups(self):
        self.assertEqual(last(put(0, "abcde"), pattern("a(b)c(d)e"), match(0)), [5, 2, 1, 2, 3, 4, 0])

    def test_several_items_in_a_group(self):
        self.assertEqual(last(put(0, "ab cd"), pattern("(<[a-z]@> )(<c?>)"), match(0)), [5, 2, 0, 3, 3, 5, 0])


class ReplacementTest(unittest.TestCase):

    def given(self, written, signs="abc", pattern_text="a(b)c"):
        answer = last(put(0, signs), pattern(pattern_text), replacement(written), match(0))
        at = 2 + 2 * answer[1]
        self.assertEqual(answer[at], len(answer) - at - 1)
        return "".join(map(chr, answer[at + 1:]))

    def test_empty_at_the_beginning(self):
        self.assertEqual(last(put(0, "a"), pattern("a"), match(0)), [1, 0, 0])

    def test_signs(self):
        self.assertEqual(self.given("x y"), "x y")
        self.assertEqual(self.given("?*[!"), "?*[!")

    def test_all_that_was_matched(self):
        self.assertEqual(self.given("\\0"), "abc")
        self.assertEqual(self.given("<\\0\\0>"), "<abcabc>")

    def test_group(self):
        self.assertEqual(self.given("\\1"), "b")
        self.assertEqual(self.given("\\1x\\1"), "bxb")

    def test_groups_that_there_are_none_of(self):
        for number in range(2, 10):
            self.assertEqual(self.given(f"<\\{number}>"), "<>", number)
        self.assertEqual(self.given("\\1", "abc", "abc"), "")

    def test_number_of_one_digit_alone(self):
        self.assertEqual(self.given("\\10"), "b0")
        self.assertEqual(self.given("\\01"), "abc1")

    def test_paragraphs_end_and_backslash(self):
        self.assertEqual(self.given("\\1\\n\\\\n"), "b\n\\n")
        self.assertEqual(self.given("\\0\\1", "a\n", "a(\\n)"), "a\n\n")

    def test_signs_as_they_stand_in_the_text_with_folding(self):
        calls = (put(0, "aBc"), options(1, -1, 0), pattern("A(b)C"), replacement("\\0\\1"), match(0))
        self.assertEqual(last(*calls), [3, 1, 1, 2, 4] + codes("aBcB"))

    def test_what_is_not_shown_is_left_out(self):
        calls = (put(0, "axc"), track(1), cut(1, 2), put(1, "b"), pattern("a(?)c"), replacement("\\1\\0"), match(0))
        self.assertEqual(last(*calls), [3, 1, 1, 2, 4] + codes("babc"))

    def test_changes_nothing(self):
        start = (put(0, "abc"), track(1), pattern("b"), replacement("x"))
        self.assertEqual(row_after(*start, match(1)), row_after(*start))
        self.assertEqual(last(*start, match(1), put(0, "d")), [1])
