"""Promise 9: replacement, and how a replacement is written and read."""

import unittest

from patternedits.replacements import PART_GROUP, PART_SIGN
from tests.helper import FAR_OUT, editor_after, last, replacement


def parts_of(text):
    """Each part as a character, or as a group's number."""
    names = {PART_SIGN: chr, PART_GROUP: int}
    return [names[kind](number) for kind, number in editor_after(replacement(text)).replacement]


class ReplacementTest(unittest.TestCase):

    def accepted(self, *texts):
        for text in texts:
            self.assertEqual(last(replacement(text)), [0], text)

    def refused(self, *texts):
        for text in texts:
            self.assertEqual(last(replacement(text)), [-6], text)

    def test_lengths(self):
        self.accepted("", "a", "a" * 200, "\\0" * 100)
        self.refused("a" * 201, "a" * 2000)

    def test_numbers_outside_the_range(self):
        for number in (31, 127, 10, 0, -1) + FAR_OUT:
            self.refused([number], [97, number], [number, 97], [92, number])
        self.accepted([32], [126])

    def test_what_may_stand_behind_a_backslash(self):
        for number in range(32, 127):
            if chr(number) in "0123456789n\\":
                self.accepted([92, number])
            else:
                self.refused([92, number], [97, 92, number, 97])

    def test_backslash_at_the_end(self):
        self.refused("\\", "a\\", "\\\\\\", "\\1\\")
        self.accepted("\\\\", "\\\\\\\\")

    def test_parts(self):
        self.assertEqual(parts_of("\\2.\\1"), [2, ".", 1])
        self.assertEqual(parts_of("\\0\\9\\n\\\\"), [0, 9, "\n", "\\"])
        self.assertEqual(parts_of("\\\\1\\12n"), ["\\", "1", 1, "2", "n"])
        self.assertEqual(parts_of("[a-z]*?<>(){}@~ "), list("[a-z]*?<>(){}@~ "))
        self.assertEqual(parts_of(""), [])

    def test_empty_at_the_beginning(self):
        self.assertEqual(editor_after().replacement, [])

    def test_each_replacement_takes_the_place_of_the_one_before(self):
        self.assertEqual(editor_after(replacement("a"), replacement("\\3")).replacement, [(PART_GROUP, 3)])
        self.assertEqual(editor_after(replacement("a"), replacement("")).replacement, [])

    def test_refused_replacement_leaves_the_one_before(self):
        self.assertEqual(editor_after(replacement("a"), replacement("\\x")).replacement, [(PART_SIGN, 97)])
