"""All promises again: long lines of calls, against a model that follows the words one by one and spares nothing."""

import random
import unittest

from tests.helper import (author, change, clock, codes, cut, find, joined, match, matches, options, paint, paintall,
                          pattern, put, replace, replaceall, replacement, row, run, text, track)


def is_word_sign(sign):
    return chr(sign) in "0123456789abcdefghijklmnopqrstuvwxyzABCDEFGHIJKLMNOPQRSTUVWXYZ"


def other_case(sign):
    return ord(chr(sign).swapcase())


class Model:

    def __init__(self):
        self.row = [self.piece(10, (0, 0, 0, 0), [])]
        self.changes = []
        self.author = 1
        self.time = 0
        self.tracking = 0
        self.pattern = None
        self.replacement = []
        self.fold = 0
        self.asked = (-1, 0)

    def piece(self, sign, look, insertions):
        return {"sign": sign, "own": list(look), "insertions": insertions, "deletions": [], "pending": []}

    def shown(self):
        return [piece for piece in self.row if not piece["deletions"]]

    def look(self, piece):
        look = list(piece["own"])
        for number, k, v in piece["pending"]:
            look[k] = v
        return look

    def at_once(self, piece):
        if not self.tracking:
            return True
        return bool(piece["insertions"]) and self.changes[piece["insertions"][-1] - 1][0] == self.author

    def bears(self, piece, m):
        return m in piece["insertions"] or m in piece["deletions"] or m in [entry[0] for entry in piece["pending"]]

    def done(self, kind):
        m = len(self.changes) + 1
        if not any(self.bears(piece, m) for piece in self.row):
            return [0]
        self.changes.append((self.author, self.time, kind))
        return [m]

    def call_author(self, a):
        if not 1 <= a <= 99:
            return [-2]
        self.author = a
        return [0]

    def call_clock(self, t):
        if t < 0 or t < self.time:
            return [-2] if t < 0 else [-3]
        self.time = t
        return [0]

    def call_track(self, on):
        if on not in (0, 1):
            return [-2]
        self.tracking = on
        return [0]

    def call_put(self, p, signs):
        shown = self.shown()
        if not 0 <= p <= len(shown) - 1:
            return [-1]
        if not signs or any(sign != 10 and not 32 <= sign <= 126 for sign in signs):
            return [-2]
        m = len(self.changes) + 1
        new = []
        for sign in signs:
            look = (0, 0, 0, 0)
            if sign == 10:
                look = self.look([piece for piece in shown[p:] if piece["sign"] == 10][0])
            elif p > 0 and shown[p - 1]["sign"] != 10:
                look = self.look(shown[p - 1])
            new.append(self.piece(sign, look, [m] if self.tracking else []))
        at = [place for place, piece in enumerate(self.row) if piece is shown[p]][0]
        self.row[at:at] = new
        return self.done(1)

    def call_cut(self, p, q):
        shown = self.shown()
        if not 0 <= p < q <= len(shown) - 1:
            return [-1]
        m = len(self.changes) + 1
        for target in shown[p:q]:
            if self.at_once(target):
                self.row = [piece for piece in self.row if piece is not target]
            else:
                target["deletions"] = [m]
        return self.done(2)

    def call_paint(self, p, q, k, v):
        shown = self.shown()
        if not 0 <= p < q <= len(shown):
            return [-1]
        if not 0 <= k <= 3 or not 0 <= v <= 99:
            return [-2]
        m = len(self.changes) + 1
        for piece in shown[p:q]:
            if self.at_once(piece):
                piece["pending"] = [entry for entry in piece["pending"] if entry[1] != k]
                piece["own"][k] = v
            elif self.look(piece)[k] != v:
                piece["pending"].append((m, k, v))
        return self.done(3)

    # The pattern comes as its items, which were written down by who made them up, so nothing is read here.
    def call_pattern(self, pattern_items):
        self.pattern = pattern_items
        return [len(pattern_items), len([item for item in pattern_items if item[0] == "("])]

    def call_replacement(self, parts):
        self.replacement = parts
        return [0]

    def call_options(self, fold, k, v):
        if fold not in (0, 1) or not -1 <= k <= 3 or not 0 <= v <= 99:
            return [-2]
        self.fold = fold
        self.asked = (k, v)
        return [0]

    def fits_plainly(self, unit, sign):
        kind, listed = unit
        if kind == "sign":
            return sign == listed
        if kind == "any":
            return sign != 10
        inside = any(first <= sign <= last for first, last in listed)
        return sign != 10 and inside == (kind == "said")

    def fits(self, unit, sign):
        if not self.fold or unit[0] == "any":
            return self.fits_plainly(unit, sign)
        if unit[0] == "denied":
            return self.fits_plainly(unit, sign) and self.fits_plainly(unit, other_case(sign))
        return self.fits_plainly(unit, sign) or self.fits_plainly(unit, other_case(sign))

    def ends(self, item, s, signs):
        """All e to which the item is met from s."""
        size = len(signs)
        before = s > 0 and is_word_sign(signs[s - 1])
        behind = s < size and is_word_sign(signs[s])
        if item[0] in "()":
            return [s]
        if item[0] == "<":
            return [s] if behind and not before else []
        if item[0] == ">":
            return [s] if before and not behind else []
        kind, unit, least, greatest, greedy = item
        found = []
        for e in range(s, min(s + greatest, size) + 1):
            if e - s >= least and all(self.fits(unit, sign) for sign in signs[s:e]):
                found.append(e)
        return found

    def can_go_on(self, i, s, q, signs, known):
        if i == len(self.pattern):
            return s <= q
        if (i, s) not in known:
            known[i, s] = any(e <= q and self.can_go_on(i + 1, e, q, signs, known)
                              for e in self.ends(self.pattern[i], s, signs))
        return known[i, s]

    def match(self, s, q, known):
        """The beginning, the end and the groups; or None."""
        searched = self.shown()[:-1]
        signs = [piece["sign"] for piece in searched]
        if not self.can_go_on(0, s, q, signs, known):
            return None
        groups = []
        at = s
        for i, item in enumerate(self.pattern):
            possible = [e for e in self.ends(item, at, signs)
                        if e <= q and self.can_go_on(i + 1, e, q, signs, known)]
            at = max(possible) if item[0] != "unit" or item[4] else min(possible)
            if item[0] in "()":
                groups.append(at)
        k, v = self.asked
        if at == s or (k >= 0 and any(self.look(piece)[k] != v for piece in searched[s:at])):
            return None
        return s, at, groups

    def matches(self, p, q):
        found = []
        known = {}
        s = p
        while s <= q:
            one = self.match(s, q, known)
            if one is not None:
                found.append(one)
            s = s + 1 if one is None else one[1]
        return found

    def replacement_for(self, one):
        signs = [piece["sign"] for piece in self.shown()]
        stretches = [one[:2]] + list(zip(one[2][::2], one[2][1::2]))
        found = []
        for part in self.replacement:
            if part[0] == "sign":
                found.append(part[1])
            elif part[1] < len(stretches):
                begin, end = stretches[part[1]]
                found.extend(signs[begin:end])
        return found

    def do_replace(self, one, new):
        s, e = one[:2]
        old = [piece["sign"] for piece in self.shown()[s:e]]
        a = max(size for size in range(min(len(old), len(new)) + 1) if old[:size] == new[:size])
        old = old[a:]
        new = new[a:]
        b = max(size for size in range(min(len(old), len(new)) + 1) if old[len(old) - size:] == new[len(new) - size:])
        middle = new[:len(new) - b]
        k = len(middle)
        if middle:
            self.call_put(s + a, middle)
        if s + a < e - b:
            self.call_cut(s + a + k, e - b + k)
        return k, e - b - s - a

    def refusal(self, p, q):
        if self.pattern is None:
            return [-8]
        return None if 0 <= p <= q <= len(self.shown()) - 1 else [-1]

    def call_find(self, p):
        end = len(self.shown()) - 1
        refused = self.refusal(p, p)
        if refused:
            return refused
        found = self.matches(p, end)
        return [1] + list(found[0][:2]) if found else [0, 0, 0]

    def call_match(self, p):
        refused = self.refusal(p, p)
        if refused:
            return refused
        one = self.match(p, len(self.shown()) - 1, {})
        if one is None:
            return [-4]
        new = self.replacement_for(one)
        if len(new) > 2000:
            return [-5]
        return [one[1], len(one[2]) // 2] + one[2] + [len(new)] + new

    def call_matches(self, p, q):
        refused = self.refusal(p, q)
        if refused:
            return refused
        found = self.matches(p, q)
        return [len(found)] + [number for one in found for number in one[:2]]

    def call_replace(self, p):
        refused = self.call_match(p)
        if refused[0] < 0:
            return refused
        one = self.match(p, len(self.shown()) - 1, {})
        new = self.replacement_for(one)
        if len(self.shown()) + len(new) - (one[1] - one[0]) > 2001:
            return [-5]
        return [p + len(new)] + list(self.do_replace(one, new))

    def call_replaceall(self, p, q):
        refused = self.refusal(p, q)
        if refused:
            return refused
        found = self.matches(p, q)
        new = [self.replacement_for(one) for one in found]
        size = len(self.shown()) + sum(map(len, new)) - sum(one[1] - one[0] for one in found)
        if any(len(signs) > 2000 for signs in new) or size > 2001:
            return [-5]
        counts = [self.do_replace(one, signs) for one, signs in reversed(list(zip(found, new)))]
        return [len(found), sum(put_count for put_count, cut_count in counts),
                sum(cut_count for put_count, cut_count in counts)]

    def call_paintall(self, p, q, k, v):
        refused = self.refusal(p, q)
        if refused:
            return refused
        if not 0 <= k <= 3 or not 0 <= v <= 99:
            return [-2]
        found = self.matches(p, q)
        entered = [self.call_paint(one[0], one[1], k, v) for one in reversed(found)]
        return [len(found), len([number for number in entered if number != [0]])]

    def call_text(self, w):
        if w not in (1, 2):
            return [-2]
        if w == 1:
            told = [[piece["sign"]] + self.look(piece) for piece in self.shown()]
        else:
            told = [[piece["sign"]] + piece["own"] for piece in self.row if not piece["insertions"]]
        return [len(told)] + joined(told)

    def call_row(self):
        answer = [len(self.row)]
        for piece in self.row:
            answer += [piece["sign"]] + piece["own"] + [len(piece["insertions"])] + piece["insertions"]
            answer += [len(piece["deletions"])] + piece["deletions"]
            answer += [len(piece["pending"])] + joined(piece["pending"])
        return answer

    def call_change(self, c):
        if not 1 <= c <= len(self.changes):
            return [-4]
        return list(self.changes[c - 1]) + [len([piece for piece in self.row if self.bears(piece, c)])]


SIGNS = codes("aaabbAB1 .\n")


def random_unit(source):
    """A unit as the model has it, and as it is written."""
    kind = source.randrange(12)
    if kind == 0:
        return ("any", None), "?"
    if kind == 1:
        return ("sign", 10), "\\n"
    if kind < 8:
        sign = source.choice(SIGNS[:-1])
        return ("sign", sign), chr(sign)
    denied = source.randrange(2) == 1
    stretches = [source.choice(((97, 98), (98, 99), (65, 66), (48, 57), (97, 97), (32, 47), (65, 122)))
                 for count in range(source.randint(1, 2))]
    written = "".join("\\" + chr(first) + "-\\" + chr(last) for first, last in stretches)
    return ("denied" if denied else "said", stretches), "[" + ("!" if denied else "") + written + "]"


def random_item(source):
    kind = source.randrange(12)
    if kind == 0:
        return ("<",), "<"
    if kind == 1:
        return (">",), ">"
    if kind == 2:
        return ("unit", ("any", None), 0, 99, False), "*"
    unit, written = random_unit(source)
    if kind < 7:
        return ("unit", unit, 1, 1, True), written
    greedy = source.randrange(2) == 1
    way = "" if greedy else "~"
    if kind < 9:
        return ("unit", unit, 1, 99, greedy), written + "@" + way
    least = source.randint(0, 2)
    greatest = max(1, least + source.randint(0, 3))
    return ("unit", unit, least, greatest, greedy), f"{written}{{{least},{greatest}}}{way}"


def random_pattern(source):
    """The items of a pattern, and how it is written."""
    found = []
    within = False
    for count in range(source.choice((1, 1, 2, 2, 3, 4, 7))):
        if source.randrange(4) == 0:
            if within and found[-1][1] == "(":
                found.append(random_item(source))
            found.append(((")",), ")") if within else (("(",), "("))
            within = not within
        found.append(random_item(source))
    if within:
        found.append(((")",), ")"))
    return [item for item, written in found], "".join(written for item, written in found)


def random_replacement(source):
    found = []
    for count in range(source.randint(0, 4)):
        kind = source.randrange(3)
        number = source.randint(0, 4)
        sign = source.choice(SIGNS)
        if kind < 2:
            found.append((("group", number), "\\" + str(number)))
        else:
            found.append((("sign", sign), "\\n" if sign == 10 else chr(sign)))
    return [part for part, written in found], "".join(written for part, written in found)


def random_edit(source, size):
    """One of the calls 0 to 8, its name in the model and what is handed to it there; now and then outside its range."""
    kind = source.randrange(12)
    p = source.randint(-1 if source.randrange(9) == 0 else 0, size - 1)
    q = p + source.randint(0 if source.randrange(9) == 0 else 1, 4)
    k = source.choice((0, 1, 0, 1, 0, 1, 2, 3, 4, -1))
    v = source.choice((0, 1, 0, 1, 2, 99, 100))
    if kind == 0:
        return author, "call_author", (source.randint(0, 4),)
    if kind == 1:
        return clock, "call_clock", (source.randint(-1, 40),)
    if kind == 2:
        return track, "call_track", (source.choice((0, 1, 1, 1, 2)),)
    if kind < 7:
        signs = [source.choice(SIGNS) for count in range(source.randint(1, 9))]
        return put, "call_put", (p, source.choice((signs, signs, signs, signs, [], signs + [9])))
    if kind == 7:
        return cut, "call_cut", (p, q)
    if kind < 11:
        return paint, "call_paint", (p, q, k, v)
    return options, "call_options", (source.choice((0, 1, 1, 2)), source.choice((-1, -1, -1, 0, 1, 4)), v)


def random_search(source, size, matched, entered):
    """The same for the calls 9 to 17."""
    near = source.randint(-1 if source.randrange(9) == 0 else 0, size if source.randrange(9) == 0 else size - 1)
    p = source.choice((near, 0, 0))
    q = source.choice((size - 1, size - 1, size - 1, near, size))
    at = source.choice([near] + matched)
    k = source.choice((0, 1, 2, 3, 0, 1, 4))
    v = source.choice((0, 1, 0, 1, 2, 99, 100))
    return source.choice((
        (find, "call_find", (near,)), (match, "call_match", (at,)), (matches, "call_matches", (p, q)),
        (replace, "call_replace", (at,)), (replaceall, "call_replaceall", (p, q)),
        (paintall, "call_paintall", (p, q, k, v)), (text, "call_text", (source.choice((1, 2, 1, 2, 0, 3)),)),
        (row, "call_row", ()), (change, "call_change", (source.randint(0, entered + 1),))))


def random_line(seed):
    """The calls of a line, and the answers that the model gives to them."""
    source = random.Random(seed)
    model = Model()
    calls = []
    expected = []
    for count in range(source.randint(1, 110)):
        size = len(model.shown())
        if count % 4 == 2:
            pattern_items, written = random_pattern(source)
            calls.append(pattern(written))
            expected.append(model.call_pattern(pattern_items))
        if count % 11 == 3:
            parts, written = random_replacement(source)
            calls.append(replacement(written))
            expected.append(model.call_replacement(parts))
        matched = [one[0] for one in model.matches(0, size - 1)] if model.pattern else []
        make, name, given = random_search(source, size, matched, len(model.changes))
        if source.randrange(2) == 0:
            make, name, given = random_edit(source, size)
        # What grows without end takes the model too long.
        if size > 80:
            make, name, given = cut, "call_cut", (10, size - 1)
        calls.append(make(*given))
        expected.append(getattr(model, name)(*given))
    for number in range(1, len(model.changes) + 1):
        calls.append(change(number))
        expected.append(model.call_change(number))
    return calls + [row(), text(1), text(2)], expected + [model.call_row(), model.call_text(1), model.call_text(2)]


class ModelTest(unittest.TestCase):

    def test_long_lines(self):
        for seed in range(150):
            calls, expected = random_line(seed)
            self.assertEqual(run(*calls), expected, joined(calls))
