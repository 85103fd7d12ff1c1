"""The example that stands behind the promises, word for word."""

import unittest

from tests.helper import (before_all_after, codes, find, last, match, matches, pattern, put, replace, replaceall,
                          replacement, run, shown_after, told_changes_after, told_row_after, track)

START = (put(0, "on 3/12 or 14/07"), pattern("([0-9]{1,2})/([0-9]{2,2})"), replacement("\\2.\\1"))


class ExampleTest(unittest.TestCase):

    def test_pattern(self):
        self.assertEqual(run(*START), [[0], [7, 2], [0]])
        self.assertEqual(last(pattern("a{0,3}~b*")), [3, 0])

    def test_matches(self):
        self.assertEqual(last(*START, matches(0, 16)), [2, 3, 7, 11, 16])
        self.assertEqual(last(*START, find(0)), [1, 3, 7])
        self.assertEqual(last(*START, find(4)), [1, 11, 16])

    def test_replacements(self):
        self.assertEqual(last(*START, match(3)), [7, 2, 3, 4, 5, 7, 4] + codes("12.3"))
        self.assertEqual(last(*START, match(11)), [16, 2, 11, 13, 14, 16, 5] + codes("07.14"))

    def test_all_is_put_and_cut(self):
        calls = START + (track(1), replaceall(0, 16))
        self.assertEqual(last(*calls), [2, 9, 9])
        self.assertEqual(shown_after(*calls), "on 12.3 or 07.14")
        self.assertEqual(before_all_after(*calls), "on 3/12 or 14/07")
        self.assertEqual("".join(chr(piece[0]) for piece in told_row_after(*calls)),
                         "on 12.33/12 or 07.1414/07\n")
        self.assertEqual(told_changes_after(*calls), [(1, 0, 1, 5), (1, 0, 2, 5), (1, 0, 1, 4), (1, 0, 2, 4)])

    def test_one_by_one(self):
        self.assertEqual(run(*START, track(1), replace(3), replace(11))[-2:], [[7, 4, 4], [16, 5, 5]])

    def test_only_the_u_is_put(self):
        calls = (put(0, "color"), track(1), pattern("colou{0,1}r"), replacement("colour"), replace(0))
        self.assertEqual(last(*calls), [6, 1, 0])
        self.assertEqual([(chr(piece[0]), piece[2], piece[3]) for piece in told_row_after(*calls)],
                         [("c", [], []), ("o", [], []), ("l", [], []), ("o", [], []), ("u", [1], []), ("r", [], []),
                          ("\n", [], [])])
