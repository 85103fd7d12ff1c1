"""Which units fit which signs, and where matches begin and end."""

import unittest

from tests.helper import (author, codes, cut, find, found_in, last, match, matches, options, pairs, paint, pattern, put,
                          replacement, run, track)

ALL_SIGNS = [10] + list(range(32, 127))
FOLDED = options(1, -1, 0)


def fitting(written, *more):
    """Which of all signs a unit fits, asked for one by one."""
    calls = [put(0, ALL_SIGNS), pattern(written), *more] + [matches(at, at + 1) for at in range(len(ALL_SIGNS))]
    answers_of_signs = run(*calls)[-len(ALL_SIGNS):]
    return [sign for sign, answer in zip(ALL_SIGNS, answers_of_signs) if answer[0] == 1]


def between(first, last_one):
    return list(range(ord(first), ord(last_one) + 1))


class UnitsTest(unittest.TestCase):

    def test_a_sign_fits_itself(self):
        for sign in ALL_SIGNS[1:]:
            written = "\\" + chr(sign)
            if chr(sign) != "n":
                self.assertEqual(fitting(written), [sign], written)
        self.assertEqual(fitting("n"), codes("n"))

    def test_paragraphs_end(self):
        self.assertEqual(fitting("\\n"), [10])
        self.assertEqual(fitting("\\n", FOLDED), [10])

    def test_any_fits_all_but_a_paragraphs_end(self):
        self.assertEqual(fitting("?"), ALL_SIGNS[1:])
        self.assertEqual(fitting("?", FOLDED), ALL_SIGNS[1:])

    def test_said_set(self):
        self.assertEqual(fitting("[b-dx]"), codes("bcdx"))
        self.assertEqual(fitting("[b]"), codes("b"))
        self.assertEqual(fitting("[ -~]"), ALL_SIGNS[1:])
        self.assertEqual(fitting("[a-cb-e]"), codes("abcde"))
        self.assertEqual(fitting("[\\n]"), codes("n"))

    def test_denied_set(self):
        self.assertEqual(fitting("[!b-dx]"), [sign for sign in ALL_SIGNS[1:] if chr(sign) not in "bcdx"])
        self.assertEqual(fitting("[! -~]"), [])
        self.assertEqual(fitting("[!\\n]"), [sign for sign in ALL_SIGNS[1:] if chr(sign) != "n"])

    def test_without_folding_the_case_counts(self):
        self.assertEqual(fitting("a"), codes("a"))
        self.assertEqual(fitting("A"), codes("A"))
        self.assertEqual(fitting("[a-z]"), between("a", "z"))


class FoldingTest(unittest.TestCase):

    def test_a_sign_fits_its_other_case(self):
        for small, great in zip("amz", "AMZ"):
            self.assertEqual(fitting(small, FOLDED), codes(great + small))
            self.assertEqual(fitting(great, FOLDED), codes(great + small))

    def test_what_is_no_letter_has_no_other_case(self):
        for character in "@[`{1! ":
            self.assertEqual(fitting("\\" + character, FOLDED), codes(character))

    def test_said_set(self):
        self.assertEqual(fitting("[b-d1]", FOLDED), codes("1BCDbcd"))
        self.assertEqual(fitting("[X-Z]", FOLDED), codes("XYZxyz"))
        self.assertEqual(fitting("[Y-b]", FOLDED), codes("ABYZ[\\]^_`abyz"))

    def test_denied_set(self):
        self.assertEqual(fitting("[!b-d1]", FOLDED), [sign for sign in ALL_SIGNS[1:] if chr(sign) not in "1BCDbcd"])
        self.assertEqual(fitting("[!A-Z]", FOLDED),
                         [sign for sign in ALL_SIGNS[1:] if not chr(sign).isalpha()])

    def test_folding_goes_on_and_off(self):
        calls = (put(0, "aA"), pattern("a"), matches(0, 2), FOLDED, matches(0, 2), options(0, -1, 0), matches(0, 2))
        self.assertEqual([answer for answer in run(*calls) if len(answer) > 2],
                         [[1, 0, 1], [2, 0, 1, 1, 2], [1, 0, 1]])


class TimesTest(unittest.TestCase):

    def test_least_and_greatest(self):
        self.assertEqual(found_in("a aa aaa aaaa", "a{2,3}"), [(2, 4), (5, 8), (9, 12)])
        self.assertEqual(found_in("aaaa", "a{2,3}~"), [(0, 2), (2, 4)])
        self.assertEqual(found_in("aaaaa", "a{2,2}"), [(0, 2), (2, 4)])

    def test_once_without_times(self):
        self.assertEqual(found_in("aab", "a"), [(0, 1), (1, 2)])

    def test_one_to_ninety_nine_times(self):
        self.assertEqual(found_in("a" * 150, "a@"), [(0, 99), (99, 150)])
        self.assertEqual(found_in("a" * 100 + "b", "a@b"), [(1, 101)])
        self.assertEqual(found_in("aab", "a@~"), [(0, 1), (1, 2)])

    def test_star_is_any_from_none_to_ninety_nine_times(self):
        self.assertEqual(found_in("ab" + "x" * 99 + "b", "a*b"), [(0, 2)])
        self.assertEqual(found_in("a" + "x" * 99 + "b", "a*b"), [(0, 101)])
        self.assertEqual(found_in("a" + "x" * 100 + "b", "a*b"), [])
        self.assertEqual(found_in("a\nb", "a*b"), [])

    def test_units_met_no_times(self):
        self.assertEqual(found_in("ac abc abbc", "ab{0,1}c"), [(0, 2), (3, 6)])
        self.assertEqual(found_in("b", "a{0,9}b"), [(0, 1)])
        self.assertEqual(found_in("b", "ba{0,9}"), [(0, 1)])

    def test_a_unit_takes_only_what_lets_the_rest_go_on(self):
        self.assertEqual(found_in("aaab", "a@ab"), [(0, 4)])
        self.assertEqual(found_in("aaa", "a@a{2,2}"), [(0, 3)])
        self.assertEqual(found_in("aa", "a@a{2,2}"), [])

    def test_unit_does_not_reach_over_what_it_does_not_fit(self):
        self.assertEqual(found_in("aab", "a{3,3}"), [])
        self.assertEqual(found_in("aab", "a@?{0,1}b"), [(0, 3)])


class WaysTest(unittest.TestCase):

    def groups(self, signs, written):
        answer = last(put(0, signs), pattern(written), match(0))
        return answer[0], list(zip(answer[2:2 + 2 * answer[1]:2], answer[3:3 + 2 * answer[1]:2]))

    def test_greedy_takes_the_greatest_end(self):
        self.assertEqual(self.groups("aaaa", "(a{0,3})(a{0,3})"), (4, [(0, 3), (3, 4)]))

    def test_sparing_takes_the_least_end(self):
        self.assertEqual(self.groups("aaaa", "(a{1,3}~)(a{1,3}~)"), (2, [(0, 1), (1, 2)]))

    def test_greedy_before_sparing(self):
        self.assertEqual(self.groups("aaaa", "(a{0,3})(a{0,3}~)"), (3, [(0, 3), (3, 3)]))
        self.assertEqual(self.groups("aaaab", "(a{0,3})(a{0,3}~)b"), (5, [(0, 3), (3, 4)]))

    def test_sparing_before_greedy(self):
        self.assertEqual(self.groups("aaaa", "(a{0,3}~)(a{0,3})"), (3, [(0, 0), (0, 3)]))
        self.assertEqual(self.groups("aaaab", "(a{0,3}~)(a{0,3})b"), (5, [(0, 1), (1, 4)]))

    def test_the_first_item_chooses_first(self):
        self.assertEqual(self.groups("aaaa", "(a@)(a@)"), (4, [(0, 3), (3, 4)]))
        self.assertEqual(self.groups("aaaa", "(a@~)(a@)"), (4, [(0, 1), (1, 4)]))
        self.assertEqual(self.groups("abcabc", "(*)(c)(*)"), (3, [(0, 2), (2, 3), (3, 3)]))
        self.assertEqual(self.groups("abcabc", "(?@)(c)(*)"), (6, [(0, 5), (5, 6), (6, 6)]))

    def test_a_sparing_unit_goes_as_far_as_the_rest_asks(self):
        self.assertEqual(self.groups("xx1x2", "(*)2"), (5, [(0, 4)]))


class LengthTest(unittest.TestCase):

    def test_a_match_of_no_length_is_none(self):
        self.assertEqual(found_in("bbb", "a{0,3}"), [])
        self.assertEqual(found_in("abc", "*"), [])
        self.assertEqual(found_in("aaa", "a{0,3}~"), [])
        self.assertEqual(found_in("ab", "<"), [])
        self.assertEqual(found_in("ab", "(>)"), [])

    def test_no_other_end_is_looked_for(self):
        self.assertEqual(found_in("ab", "*b{0,1}"), [(1, 2)])
        self.assertEqual(found_in("ba", "a{0,1}~b{0,1}"), [(0, 1)])

    def test_after_a_match_of_no_length_the_next_position_is_looked_at(self):
        self.assertEqual(found_in("bab aa", "a{0,2}"), [(1, 2), (4, 6)])

    def test_nothing_to_search(self):
        self.assertEqual(found_in("", "a"), [])
        self.assertEqual(found_in("", "a{0,1}"), [])
        self.assertEqual(found_in("", "\\n"), [])
        self.assertEqual(found_in("", "<>"), [])


class WordsTest(unittest.TestCase):

    def test_beginning(self):
        self.assertEqual(found_in("aa a ba", "<a"), [(0, 1), (3, 4)])
        self.assertEqual(found_in(" a", "<a"), [(1, 2)])

    def test_end(self):
        self.assertEqual(found_in("aa a ab", "a>"), [(1, 2), (3, 4)])
        self.assertEqual(found_in("ba", "a>"), [(1, 2)])
        self.assertEqual(found_in("a.", "a>"), [(0, 1)])

    def test_at_the_two_ends_of_the_text(self):
        self.assertEqual(found_in("a", "<a>"), [(0, 1)])
        self.assertEqual(found_in("a", "a<"), [])
        self.assertEqual(found_in("a", ">a"), [])
        self.assertEqual(found_in(" ", "< "), [])
        self.assertEqual(found_in(" ", " >"), [])
        self.assertEqual(found_in(".a", ".<a>"), [(0, 2)])
        self.assertEqual(found_in("a.", "<a>."), [(0, 2)])

    def test_no_position_is_both(self):
        self.assertEqual(found_in("a a", "a<>"), [])
        self.assertEqual(found_in("a a", "><a"), [])

    def test_which_signs_are_of_words(self):
        for character in "09AZaz":
            self.assertEqual(found_in(" " + character + " ", " <?> "), [(0, 3)], character)
        for character in "/:@[`{_-'\"!~ ":
            self.assertEqual(found_in(" " + character + " ", "<?"), [], character)
            self.assertEqual(found_in(" " + character + " ", "?>"), [], character)
            self.assertEqual(found_in("a" + character + "a", "a>\\" + character + "<a"), [(0, 3)], character)

    def test_paragraphs_ends_part_words(self):
        self.assertEqual(found_in("a\na", "<a>"), [(0, 1), (2, 3)])
        self.assertEqual(found_in("ab\ncd", "b>\\n<c"), [(1, 4)])

    def test_whole_words_between_other_items(self):
        self.assertEqual(found_in("foo bar2, x", "<[a-z0-9]@>"), [(0, 3), (4, 8), (10, 11)])
        self.assertEqual(found_in("abc", "<?@>"), [(0, 3)])

    def test_marks_side_by_side_in_the_midst_of_units(self):
        self.assertEqual(found_in("ab cd", "?@>[ ]<?@"), [(0, 5)])
        self.assertEqual(found_in("ab cd", "<<a"), [(0, 1)])


class LimitTest(unittest.TestCase):

    def within(self, signs, written, p, q):
        return pairs(last(put(0, signs), pattern(written), matches(p, q)))

    def test_nothing_is_met_beyond_the_limit(self):
        self.assertEqual(self.within("aaaa", "a@", 0, 3), [(0, 3)])
        self.assertEqual(self.within("aaaa", "a{2,2}", 0, 3), [(0, 2)])
        self.assertEqual(self.within("aaaa", "a{2,2}", 1, 3), [(1, 3)])
        self.assertEqual(self.within("ab", "ab{0,1}", 0, 1), [(0, 1)])
        self.assertEqual(self.within("ab", "ab", 0, 1), [])

    def test_limit_within_a_word_is_no_words_end(self):
        self.assertEqual(self.within("abc", "a?@>", 0, 2), [])
        self.assertEqual(self.within("abc", "a?@>", 0, 3), [(0, 3)])
        self.assertEqual(self.within("ab c", "[a-z]@>", 0, 2), [(0, 2)])
        self.assertEqual(self.within("ab c", "[a-z]@>", 0, 1), [])

    def test_beginning_within_a_word_is_no_words_beginning(self):
        self.assertEqual(self.within("abc", "<?", 1, 3), [])
        self.assertEqual(self.within("a bc", "<?", 1, 4), [(2, 3)])

    def test_a_words_beginning_at_the_limit(self):
        self.assertEqual(self.within("a b", "a <", 0, 2), [(0, 2)])
        self.assertEqual(self.within("a .", "a <", 0, 2), [])

    def test_paragraphs_end_in_the_text(self):
        self.assertEqual(self.within("a\nb", "a\\nb", 0, 3), [(0, 3)])
        self.assertEqual(self.within("a\n\nb", "\\n@", 0, 4), [(1, 3)])
        self.assertEqual(self.within("a\nb", "?@", 0, 3), [(0, 1), (2, 3)])

    def test_last_end_is_not_searched(self):
        self.assertEqual(self.within("a", "a\\n", 0, 1), [])
        self.assertEqual(self.within("a", "\\n", 0, 1), [])
        self.assertEqual(last(put(0, "a"), pattern("\\n"), find(1)), [0, 0, 0])


class AskedTest(unittest.TestCase):

    def test_all_pieces_of_the_match_must_show_it(self):
        start = (put(0, "aaaa"), paint(0, 2, 1, 7), options(0, 1, 7))
        self.assertEqual(last(*start, pattern("a"), matches(0, 4)), [2, 0, 1, 1, 2])
        self.assertEqual(last(*start, pattern("aa"), matches(0, 4)), [1, 0, 2])
        self.assertEqual(last(*start, pattern("aaa"), matches(0, 4)), [0])

    def test_each_end_of_the_match_counts(self):
        for p, q, expected in ((0, 3, [1, 0, 3]), (0, 2, [0]), (1, 3, [0]), (0, 1, [0]), (2, 3, [0])):
            calls = (put(0, "abcd"), paint(p, q, 0, 1), options(0, 0, 1), pattern("abc"), matches(0, 4))
            self.assertEqual(last(*calls), expected, (p, q))

    def test_a_hole_in_the_midst(self):
        calls = (put(0, "abc"), paint(0, 3, 0, 1), paint(1, 2, 0, 2), options(0, 0, 1), pattern("abc"), matches(0, 3))
        self.assertEqual(last(*calls), [0])

    def test_no_other_end_is_looked_for(self):
        start = (put(0, "aaaa"), paint(0, 2, 0, 1), options(0, 0, 1))
        self.assertEqual(last(*start, pattern("a@"), matches(0, 4)), [0])
        self.assertEqual(last(*start, pattern("a@~"), matches(0, 4)), [2, 0, 1, 1, 2])
        self.assertEqual(last(*start, pattern("a@"), matches(0, 2)), [1, 0, 2])

    def test_what_shows_it_not_is_passed_sign_by_sign(self):
        calls = (put(0, "aaaa"), paint(2, 4, 0, 1), options(0, 0, 1), pattern("a@"), matches(0, 4))
        self.assertEqual(last(*calls), [1, 2, 4])

    def test_none_asked_for(self):
        start = (put(0, "ab"), paint(0, 1, 0, 1), pattern("ab"))
        self.assertEqual(run(*start, options(0, 0, 1), matches(0, 2), options(0, -1, 1), matches(0, 2))[-3:],
                         [[0], [0], [1, 0, 2]])

    def test_value_0_is_asked_for_too(self):
        calls = (put(0, "aa"), paint(0, 1, 3, 5), options(0, 3, 0), pattern("a"), matches(0, 2))
        self.assertEqual(last(*calls), [1, 1, 2])

    def test_each_property_by_itself(self):
        start = (put(0, "aaaa"), paint(0, 1, 0, 9), paint(1, 2, 1, 9), paint(2, 3, 2, 9), paint(3, 4, 3, 9))
        for k in range(4):
            self.assertEqual(last(*start, options(0, k, 9), pattern("a"), matches(0, 4)), [1, k, k + 1])

    def test_the_look_as_shown_counts(self):
        start = (put(0, "ab"), track(1), paint(0, 1, 0, 3), pattern("?"))
        self.assertEqual(last(*start, options(0, 0, 3), matches(0, 2)), [1, 0, 1])
        self.assertEqual(last(*start, options(0, 0, 0), matches(0, 2)), [1, 1, 2])
        self.assertEqual(last(*start, paint(0, 1, 0, 5), paint(0, 1, 1, 3), options(0, 0, 5), matches(0, 2)), [1, 0, 1])

    def test_signs_around_the_match_need_not_show_it(self):
        calls = (put(0, " ab "), paint(1, 3, 0, 1), options(0, 0, 1), pattern("<ab>"), matches(0, 4))
        self.assertEqual(last(*calls), [1, 1, 3])


class TrackedTextTest(unittest.TestCase):

    def test_what_is_cut_is_not_searched(self):
        start = (put(0, "abxc"), track(1), cut(2, 3))
        self.assertEqual(last(*start, pattern("bc"), matches(0, 3)), [1, 1, 3])
        self.assertEqual(last(*start, pattern("x"), matches(0, 3)), [0])

    def test_what_is_put_is_searched_whoever_put_it(self):
        calls = (put(0, "ac"), track(1), author(2), put(1, "b"), author(3), pattern("abc"), matches(0, 3))
        self.assertEqual(last(*calls), [1, 0, 3])

    def test_words_reach_over_what_is_not_shown(self):
        calls = (put(0, "a b"), track(1), cut(1, 2), pattern("<ab>"), matches(0, 2))
        self.assertEqual(last(*calls), [1, 0, 2])

    def test_pattern_stays_when_the_text_changes(self):
        calls = (pattern("(b)"), replacement("\\1\\1"), put(0, "a"), find(0), put(1, "b"), find(0), match(1))
        self.assertEqual(run(*calls)[3:], [[0, 0, 0], [0], [1, 1, 2], [2, 1, 1, 2, 2, 98, 98]])
