"""Promise 10: options."""

import unittest

from tests.helper import FAR_OUT, editor_after, last, options


def options_after(*calls):
    editor = editor_after(*calls)
    return (editor.folding, editor.asked_property, editor.asked_value)


class OptionsTest(unittest.TestCase):

    def test_at_the_beginning(self):
        self.assertEqual(options_after(), (False, -1, 0))

    def test_both_ends_of_the_ranges(self):
        for fold in (0, 1):
            for k in (-1, 0, 3):
                for v in (0, 99):
                    self.assertEqual(last(options(fold, k, v)), [0], (fold, k, v))
                    self.assertEqual(options_after(options(fold, k, v)), (fold == 1, k, v))

    def test_outside_the_ranges(self):
        for fold in (-1, 2) + FAR_OUT:
            self.assertEqual(last(options(fold, 0, 0)), [-2], fold)
        for k in (-2, 4) + FAR_OUT:
            self.assertEqual(last(options(0, k, 0)), [-2], k)
        for v in (-1, 100) + FAR_OUT:
            self.assertEqual(last(options(0, 0, v)), [-2], v)

    def test_value_is_looked_at_although_no_property_is_asked_for(self):
        self.assertEqual(last(options(0, -1, 100)), [-2])
        self.assertEqual(last(options(1, -1, -1)), [-2])

    def test_refused_options_leave_those_before(self):
        for refused in (options(2, 0, 0), options(0, 4, 0), options(0, 0, 100)):
            self.assertEqual(options_after(options(1, 2, 7), refused), (True, 2, 7))
