"""Promises 1 to 3: author, clock, track."""

import unittest

from tests.helper import FAR_OUT, HUGE, author, changes_after, clock, cut, last, paint, put, run, track


class AuthorTest(unittest.TestCase):

    def test_both_ends_of_the_range(self):
        self.assertEqual(run(author(1), author(99), author(50)), [[0], [0], [0]])

    def test_outside_the_range(self):
        for a in (0, 100, -1) + FAR_OUT:
            self.assertEqual(last(author(a)), [-2], a)

    def test_first_author_is_1(self):
        self.assertEqual(changes_after(track(1), put(0, "a")), [(1, 0, 1)])

    def test_changes_bear_the_author_of_the_moment(self):
        self.assertEqual(changes_after(track(1), author(7), put(0, "a"), author(99), put(0, "b")),
                         [(7, 0, 1), (99, 0, 1)])

    def test_refused_author_leaves_the_one_before(self):
        self.assertEqual(changes_after(track(1), author(7), author(100), put(0, "a")), [(7, 0, 1)])

    def test_author_decides_what_is_own(self):
        self.assertEqual(last(track(1), author(7), put(0, "a"), author(8), cut(0, 1)), [2])
        self.assertEqual(last(track(1), author(7), put(0, "a"), author(8), author(7), cut(0, 1)), [0])


class ClockTest(unittest.TestCase):

    def test_ordinary_times(self):
        self.assertEqual(run(clock(0), clock(5), clock(5), clock(6), clock(HUGE), clock(HUGE)), [[0]] * 6)

    def test_below_zero(self):
        self.assertEqual(last(clock(-1)), [-2])
        self.assertEqual(last(clock(-HUGE)), [-2])

    def test_going_back(self):
        self.assertEqual(run(clock(5), clock(4), clock(0)), [[0], [-3], [-3]])
        self.assertEqual(last(clock(HUGE), clock(HUGE - 1)), [-3])

    def test_below_zero_is_looked_at_first(self):
        self.assertEqual(last(clock(5), clock(-1)), [-2])

    def test_refused_clock_leaves_the_time(self):
        self.assertEqual(run(clock(5), clock(3), clock(-1), clock(4), clock(5)), [[0], [-3], [-2], [-3], [0]])

    def test_changes_bear_the_time_of_the_moment(self):
        self.assertEqual(changes_after(track(1), put(0, "a"), clock(9), clock(8), put(0, "b"), paint(2, 3, 0, 1)),
                         [(1, 0, 1), (1, 9, 1), (1, 9, 3)])


class TrackTest(unittest.TestCase):

    def test_off_at_the_beginning(self):
        self.assertEqual(last(put(0, "a")), [0])

    def test_on_and_off(self):
        self.assertEqual(run(track(1), put(0, "a"), track(1), put(0, "b"), track(0), put(0, "c"), track(0)),
                         [[0], [1], [0], [2], [0], [0], [0]])

    def test_outside_the_range(self):
        for on in (2, -1) + FAR_OUT:
            self.assertEqual(last(track(on)), [-2], on)

    def test_refused_track_leaves_tracking(self):
        self.assertEqual(last(track(1), track(2), put(0, "a")), [1])
        self.assertEqual(last(track(2), put(0, "a")), [0])
