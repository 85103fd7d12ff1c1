"""The interface: how calls stand in the one list, and what is given back."""

import unittest

from patternedits.texts import answers
from tests.helper import (HUGE, author, change, clock, codes, cut, find, joined, match, matches, options, paint,
                          paintall, pattern, put, replace, replaceall, replacement, row, run, text, track)


class InterfaceTest(unittest.TestCase):

    def test_counts_and_answers_stand_one_behind_another(self):
        self.assertEqual(answers([0, 1]), [1, 0])
        self.assertEqual(answers([6, 1, 97, 0, 100, 6, 0]), [2, 1, 0, 1, -2, 1, -6])

    def test_each_calls_numbers(self):
        calls = [0, 3, 1, 8, 2, 1, 3, 0, 2, 97, 98, 4, 0, 1, 5, 0, 1, 2, 3, 6, 3, 40, 97, 41, 7, 2, 92, 49, 8, 1, 2, 3]
        self.assertEqual(answers(calls), [1, 0, 1, 0, 1, 0, 1, 1, 1, 0, 1, 0, 2, 3, 1, 1, 0, 1, 0])

    def test_each_searching_and_telling_calls_numbers(self):
        calls = [3, 0, 2, 97, 98, 6, 1, 97, 7, 1, 99, 9, 0, 10, 0, 11, 0, 2, 14, 0, 2, 1, 5, 12, 0, 13, 0, 2, 15, 1,
                 16, 2, 1, 3, 0, 1, 100, 17, 1]
        self.assertEqual(answers(calls), [
            1, 0, 2, 1, 0, 1, 0, 3, 1, 0, 1, 4, 1, 0, 1, 99, 3, 1, 0, 1, 2, 1, 0, 3, 1, 1, 1, 3, 0, 0, 0,
            16, 3, 99, 0, 0, 0, 0, 98, 0, 0, 0, 0, 10, 0, 0, 0, 0,
            25, 3, 99, 0, 0, 0, 0, 0, 0, 0, 98, 0, 0, 0, 0, 0, 0, 0, 10, 0, 0, 0, 0, 0, 0, 0,
            1, 0, 1, 1, 4, 1, 0, 1, 1])

    def test_refused_searching_and_telling_calls_take_all_their_numbers(self):
        refused = [find(HUGE), match(-HUGE), matches(HUGE, -HUGE), replace(HUGE), replaceall(1, 0),
                   paintall(0, 0, 4, 4), text(0), change(0)]
        expected = [[-1], [-1], [-1], [-1], [-1], [-2], [-2], [-4]]
        for call, answer, unset in zip(refused, expected, [[-8]] * 6 + [[-2], [-4]]):
            self.assertEqual(run(pattern("a"), call, track(1), put(0, "a")), [[1, 0], answer, [0], [1]])
            self.assertEqual(run(call, track(1), put(0, "a")), [unset, [0], [1]])

    def test_refused_calls_take_all_their_numbers(self):
        refused = [author(HUGE), clock(-HUGE), track(2), put(-HUGE, [0, 1, 2]), put(0, []), cut(HUGE, -HUGE),
                   paint(0, HUGE, 4, 4), pattern([1, 2, 3]), pattern([]), replacement([92]), options(9, 9, 9)]
        expected = [[-2], [-2], [-2], [-1], [-2], [-1], [-1], [-6], [-6], [-6], [-2]]
        self.assertEqual(run(*refused), expected)
        for call, answer in zip(refused, expected):
            self.assertEqual(run(call, track(1), put(0, "a")), [answer, [0], [1]])

    def test_what_is_handed_in_is_not_changed(self):
        calls = joined([put(0, "hello\n"), track(1), paint(0, 7, 0, 5), cut(0, 2), pattern("(l)"), replacement("\\1m"),
                        find(0), match(0), matches(0, 4), replace(0), replaceall(0, 5), paintall(0, 5, 0, 1), text(1),
                        row(), change(1)])
        copy = list(calls)
        answers(calls)
        self.assertEqual(calls, copy)

    def test_nothing_is_kept_from_one_time_to_the_next(self):
        calls = joined([put(0, "ab"), track(1), author(5), clock(9), put(1, "c"), cut(0, 1), pattern("a"),
                        replacement("b"), options(1, 2, 3), paint(0, 3, 0, 1), paint(0, 2, 2, 3), pattern("[bc]"),
                        replacement("\\0x"), matches(0, 2), replaceall(0, 2), paintall(0, 4, 1, 1), row(), change(4)])
        first = answers(calls)
        self.assertEqual(answers(calls), first)
        self.assertEqual(run(find(0), match(0), change(1), row()), [[-8], [-8], [-4], [1, 10, 0, 0, 0, 0, 0, 0, 0]])
        self.assertEqual(run(put(1, "a"), put(0, "a"), clock(0), cut(0, 1)), [[-1], [0], [0], [0]])

    def test_only_whole_numbers_are_given_back(self):
        calls = joined([put(0, "ab"), track(1), put(1, "c"), cut(0, 1), pattern("a"), replacement("b"),
                        options(1, -1, 3), paint(0, 3, 0, 1), track(9), pattern("(b)"), find(0), match(1),
                        matches(0, 2), replaceall(0, 2), replace(1), paintall(0, 2, 1, 2), text(1), text(2), row(),
                        change(1), change(-HUGE)])
        given = answers(calls)
        self.assertIs(type(given), list)
        self.assertEqual({type(number) for number in given}, {int})

    def test_longest_list_of_calls(self):
        calls = [put(2000 * count, [97] * 2000) for count in range(8)] + [track(1)]
        calls += [paint(0, 16001, count % 4, count % 99 + 1) for count in range(194)]
        self.assertLessEqual(len(joined(calls)), 17000)
        self.assertEqual(run(*calls)[-195:], [[0]] + [[count + 1] for count in range(194)])

    def test_four_hundred_calls(self):
        calls = [put(0, "a" * 38)] + [track(1)] + [put(0, codes("b")) for count in range(398)]
        self.assertEqual(run(*calls), [[0], [0]] + [[count] for count in range(1, 399)])
