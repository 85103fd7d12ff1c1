"""Long inputs: patterns of 40 items on texts of about 2000 shown pieces, and lines that are as long as they may be."""

import unittest

from tests.helper import (author, change, codes, find, joined, last, match, matches, options, paint, paintall, pattern,
                          put, replace, replaceall, replacement, row, run, text, track)

SAME = put(0, "a" * 2000)


class LongPatternsTest(unittest.TestCase):

    def test_forty_items_that_can_be_met_in_very_many_ways(self):
        self.assertEqual(run(SAME, pattern("a@" * 39 + "b"), find(0), matches(0, 2000))[-3:], [[40, 0], [0, 0, 0], [0]])
        self.assertEqual(last(SAME, pattern("*" * 39 + "b"), find(0)), [0, 0, 0])
        self.assertEqual(last(SAME, pattern("a{0,9}" * 33 + "b"), find(0)), [0, 0, 0])

    def test_forty_sparing_items(self):
        self.assertEqual(last(SAME, pattern("*" * 39 + "a"), matches(0, 2000)),
                         [2000] + [number for at in range(2000) for number in (at, at + 1)])
        self.assertEqual(last(SAME, pattern("a@~" * 40), matches(0, 2000)),
                         [50] + [number for at in range(0, 2000, 40) for number in (at, at + 40)])

    def test_forty_greedy_items(self):
        self.assertEqual(last(SAME, pattern("a@" * 40), matches(0, 2000)), [1, 0, 2000])
        self.assertEqual(last(SAME, pattern("a@" * 20), matches(0, 2000)), [2, 0, 1980, 1980, 2000])
        self.assertEqual(last(SAME, pattern("a@" * 40), matches(0, 39)), [0])
        self.assertEqual(last(SAME, pattern("a@" * 40), matches(1, 41)), [1, 1, 41])

    def test_groups_in_long_patterns(self):
        answer = last(SAME, pattern("(a@)" * 9 + "a@" * 13), replacement("b"), match(0))
        self.assertEqual(answer, [2000, 9] + joined([(99 * at, 99 * at + 99) for at in range(9)]) + [1, 98])
        calls = (put(0, "a" * 60), pattern("(a@)" * 9 + "a@~" * 13), match(0))
        self.assertEqual(last(*calls), [60, 9, 0, 39] + joined([(at, at + 1) for at in range(39, 47)]) + [0])

    def test_items_that_are_met_no_times(self):
        self.assertEqual(last(SAME, pattern("b{0,1}" * 33), find(0)), [0, 0, 0])
        self.assertEqual(last(SAME, pattern("b{0,1}" * 32 + "a"), matches(1000, 2000))[:3], [1000, 1000, 1001])

    def test_a_far_end_decides(self):
        signs = "a" * 1999 + "b"
        self.assertEqual(last(put(0, signs), pattern("a@" * 39 + "b"), find(0)), [1, 0, 2000])
        self.assertEqual(last(put(0, signs), pattern("a@" * 15 + "b"), find(0)), [1, 514, 2000])
        self.assertEqual(last(put(0, signs), pattern("a@~" * 39 + "b"), matches(0, 2000)), [1, 0, 2000])

    def test_a_property_asked_for_that_most_do_not_show(self):
        start = (SAME, paint(1960, 2000, 0, 1), options(0, 0, 1))
        self.assertEqual(last(*start, pattern("a{1,2}~" * 20), matches(0, 2000)), [2, 1960, 1980, 1980, 2000])
        self.assertEqual(last(*start, pattern("a@" * 40), matches(0, 2000)), [1, 1960, 2000])
        self.assertEqual(last(*start, pattern("a@" * 40), matches(0, 1999)), [0])

    def test_many_calls_on_a_long_text(self):
        calls = [SAME, pattern("b{0,1}" * 32 + "a")] + [find(at) for at in range(199)]
        calls += [pattern("a@" * 39 + "b")] + [find(at) for at in range(198)]
        self.assertEqual(run(*calls)[2:], [[1, at, at + 1] for at in range(199)] + [[40, 0]] + [[0, 0, 0]] * 198)


class LongTextsTest(unittest.TestCase):

    def test_replacing_each_sign(self):
        calls = (SAME, track(1), pattern("a"), replacement("b"), replaceall(0, 2000))
        self.assertEqual(last(*calls), [2000, 2000, 2000])
        self.assertEqual(run(*calls, change(4000), change(4001))[-2:], [[1, 0, 2, 1], [-4]])
        told = last(*calls, row())
        self.assertEqual(told[0], 4001)
        self.assertEqual(told[1:19], [98, 0, 0, 0, 0, 1, 3999, 0, 0, 97, 0, 0, 0, 0, 0, 1, 4000, 0])
        self.assertEqual(last(*calls, text(1))[1::5], codes("b" * 2000 + "\n"))
        self.assertEqual(last(*calls, text(2))[1::5], codes("a" * 2000 + "\n"))

    def test_replacing_each_sign_over_and_over(self):
        calls = [SAME, track(1), pattern("?")]
        for count in range(20):
            calls += [author(count % 2 + 1), replacement("cb"[count % 2]), replaceall(0, 2000)]
        told = run(*calls, change(1), change(80000), text(2), row())
        self.assertEqual(told[-5:-2], [[2000, 2000, 2000], [1, 0, 1, 1], [2, 0, 2, 1]])
        self.assertEqual((told[-2][0], told[-1][0]), (2001, 42001))

    def test_paragraphs_ends_in_each_place(self):
        calls = (SAME, paint(2000, 2001, 0, 5), pattern("a"), replacement("\\n"), replaceall(0, 2000))
        self.assertEqual(last(*calls), [2000, 2000, 2000])
        self.assertEqual(last(*calls, text(1)), [2001] + [10, 5, 0, 0, 0] * 2001)

    def test_painting_each_sign(self):
        calls = (SAME, track(1), pattern("a"), paintall(0, 2000, 1, 4), paintall(0, 2000, 1, 4),
                 paintall(0, 1999, 1, 5))
        self.assertEqual(run(*calls)[-3:], [[2000, 2000], [2000, 0], [1999, 1999]])
        self.assertEqual(run(*calls, change(2001), change(3999), change(4000))[-3:], [[1, 0, 3, 1], [1, 0, 3, 1], [-4]])

    def test_replacing_one_by_one(self):
        calls = [SAME, track(1), pattern("a*b{0,1}"), replacement("b")] + [replace(at) for at in range(396)]
        self.assertEqual(run(*calls)[4:], [[at + 1, 1, 1] for at in range(396)])

    def test_more_than_sixteen_thousand_signs(self):
        start = [put(0, "a" * 2000) for count in range(8)]
        self.assertEqual(last(*start, pattern("a@" * 39 + "b"), find(0)), [0, 0, 0])
        self.assertEqual(last(*start, pattern("a{99,99}" * 25), matches(0, 16000))[0], 6)
        self.assertEqual(run(*start, pattern("a"), replaceall(0, 13999), replaceall(0, 14000))[-2:],
                         [[-5], [14000, 0, 14000]])

    def test_wide_stretch_without_a_match(self):
        signs = "ab" * 1000
        self.assertEqual(last(put(0, signs), pattern("(a)(b)" * 4 + "[!ab]{0,99}" * 10 + "c"), find(0)), [0, 0, 0])
        self.assertEqual(last(put(0, signs), pattern("(a)(b)" * 4 + "[!ab]{0,99}" * 10), matches(0, 2000))[:5],
                         [250, 0, 8, 8, 16])
