"""Promises 4 to 7 again: long lines of calls, against a model that follows the words one by one and spares nothing."""

import random
import unittest

from tests.helper import author, changes_after, clock, cut, joined, paint, put, row_after, run, track


class Model:

    def __init__(self):
        self.row = [self.piece(10, (0, 0, 0, 0), [])]
        self.changes = []
        self.author = 1
        self.time = 0
        self.tracking = 0

    def piece(self, sign, look, insertions):
        return {"sign": sign, "own": list(look), "insertions": insertions, "deletions": [], "pending": []}

    def shown(self):
        return [piece for piece in self.row if not piece["deletions"]]

    def look(self, piece):
        look = list(piece["own"])
        for change, k, v in piece["pending"]:
            look[k] = v
        return look

    def at_once(self, piece):
        if not self.tracking:
            return True
        return bool(piece["insertions"]) and self.changes[piece["insertions"][-1] - 1][0] == self.author

    def bears(self, piece, m):
        return m in piece["insertions"] or m in piece["deletions"] or m in [entry[0] for entry in piece["pending"]]

    def done(self, kind):
        m = len(self.changes) + 1
        if not any(self.bears(piece, m) for piece in self.row):
            return [0]
        self.changes.append((self.author, self.time, kind))
        return [m]

    def call_author(self, a):
        if not 1 <= a <= 99:
            return [-2]
        self.author = a
        return [0]

    def call_clock(self, t):
        if t < 0 or t < self.time:
            return [-2] if t < 0 else [-3]
        self.time = t
        return [0]

    def call_track(self, on):
        if on not in (0, 1):
            return [-2]
        self.tracking = on
        return [0]

    def call_put(self, p, signs):
        shown = self.shown()
        if not 0 <= p <= len(shown) - 1:
            return [-1]
        if not signs or any(sign != 10 and not 32 <= sign <= 126 for sign in signs):
            return [-2]
        m = len(self.changes) + 1
        new = []
        for sign in signs:
            look = (0, 0, 0, 0)
            if sign == 10:
                look = self.look([piece for piece in shown[p:] if piece["sign"] == 10][0])
            elif p > 0 and shown[p - 1]["sign"] != 10:
                look = self.look(shown[p - 1])
            new.append(self.piece(sign, look, [m] if self.tracking else []))
        at = [place for place, piece in enumerate(self.row) if piece is shown[p]][0]
        self.row[at:at] = new
        return self.done(1)

    def call_cut(self, p, q):
        shown = self.shown()
        if not 0 <= p < q <= len(shown) - 1:
            return [-1]
        m = len(self.changes) + 1
        for target in shown[p:q]:
            if self.at_once(target):
                self.row = [piece for piece in self.row if piece is not target]
            else:
                target["deletions"] = [m]
        return self.done(2)

    def call_paint(self, p, q, k, v):
        shown = self.shown()
        if not 0 <= p < q <= len(shown):
            return [-1]
        if not 0 <= k <= 3 or not 0 <= v <= 99:
            return [-2]
        m = len(self.changes) + 1
        for piece in shown[p:q]:
            if self.at_once(piece):
                piece["pending"] = [entry for entry in piece["pending"] if entry[1] != k]
                piece["own"][k] = v
            elif self.look(piece)[k] != v:
                piece["pending"].append((m, k, v))
        return self.done(3)


def random_call(source, shown):
    """A call as its maker, its name in the model and what is handed to it; now and then outside its range."""
    kind = source.randrange(12)
    p = source.randint(-1 if source.randrange(9) == 0 else 0, shown)
    q = p + source.randint(0 if source.randrange(9) == 0 else 1, 4)
    if kind == 0:
        return author, "call_author", (source.randint(0, 4),)
    if kind == 1:
        return clock, "call_clock", (source.randint(-1, 40),)
    if kind == 2:
        return track, "call_track", (source.choice((0, 1, 1, 1, 2)),)
    if kind < 7:
        signs = [source.choice((10, 97, 98, 99)) for count in range(source.randint(0, 5))]
        return put, "call_put", (p, signs + source.choice(([], [], [], [9])))
    if kind < 9:
        return cut, "call_cut", (p, q)
    return paint, "call_paint", (p, q, source.choice((0, 1, 2, 3, 0, 1, 4, -1)), source.choice((0, 1, 2, 99, 100)))


class ModelTest(unittest.TestCase):

    def compare(self, seed):
        source = random.Random(seed)
        model = Model()
        calls = []
        expected = []
        for count in range(source.randint(1, 120)):
            make, name, given = random_call(source, len(model.shown()))
            calls.append(make(*given))
            expected.append(getattr(model, name)(*given))
        self.assertEqual(run(*calls), expected, joined(calls))
        row = [(piece["sign"], tuple(piece["own"]), piece["insertions"], piece["deletions"], piece["pending"])
               for piece in model.row]
        self.assertEqual(row_after(*calls), row, joined(calls))
        self.assertEqual(changes_after(*calls), model.changes, joined(calls))

    def test_long_lines(self):
        for seed in range(300):
            self.compare(seed)
