"""What the tests share: writing calls down, and looking at what they left behind."""

from patternedits.cursor import Cursor
from patternedits.editor import Editor
from patternedits.texts import CALLS, answers

HUGE = 10 ** 18
PLAIN = (0, 0, 0, 0)
FAR_OUT = (-HUGE, HUGE)


def codes(text):
    return [ord(character) for character in text]


def as_list(signs):
    signs = codes(signs) if isinstance(signs, str) else list(signs)
    return [len(signs)] + signs


def author(a):
    return [0, a]


def clock(t):
    return [1, t]


def track(on):
    return [2, on]


def put(p, signs):
    return [3, p] + as_list(signs)


def cut(p, q):
    return [4, p, q]


def paint(p, q, k, v):
    return [5, p, q, k, v]


def pattern(text):
    return [6] + as_list(text)


def replacement(text):
    return [7] + as_list(text)


def options(fold, k, v):
    return [8, fold, k, v]


def find(p):
    return [9, p]


def match(p):
    return [10, p]


def matches(p, q):
    return [11, p, q]


def replace(p):
    return [12, p]


def replaceall(p, q):
    return [13, p, q]


def paintall(p, q, k, v):
    return [14, p, q, k, v]


def text(w):
    return [15, w]


def row():
    return [16]


def change(c):
    return [17, c]


def joined(calls):
    return [number for call in calls for number in call]


def run(*calls):
    """Each call's answer as a list, in order."""
    given = answers(joined(calls))
    found = []
    at = 0
    while at < len(given):
        count = given[at]
        found.append(given[at + 1:at + 1 + count])
        at += 1 + count
    return found


def last(*calls):
    return run(*calls)[-1]


def pairs(answer):
    """The beginnings and ends that matches answers, as pairs."""
    found = list(zip(answer[1::2], answer[2::2]))
    assert answer == [len(found)] + joined(found)
    return found


def found_in(signs, written, *more):
    """All matches of a pattern in a text, after what other calls are to come before."""
    signs = codes(signs)
    return pairs(last(*([put(0, signs)] if signs else []), pattern(written), *more, matches(0, len(signs))))


def shown_after(*calls):
    """The text that the calls leave, the last end left out."""
    answer = last(*calls, text(1))
    return "".join(chr(sign) for sign in answer[1::5])[:-1]


def before_all_after(*calls):
    """The text without all insertions, the last end left out."""
    answer = last(*calls, text(2))
    return "".join(chr(sign) for sign in answer[1::5])[:-1]


def told_row_after(*calls):
    """The row as the call row tells it, in the form of row_after."""
    answer = last(*calls, row())
    found = []
    at = 1
    while at < len(answer):
        sign, look = answer[at], tuple(answer[at + 1:at + 5])
        at += 5
        lists = []
        for width in (1, 1, 3):
            begin, end = at + 1, at + 1 + width * answer[at]
            lists.append(answer[begin:end] if width == 1
                         else [tuple(answer[entry:entry + 3]) for entry in range(begin, end, 3)])
            at = end
        found.append((sign, look, *lists))
    assert answer[0] == len(found)
    return found


def told_changes_after(*calls):
    """All changes that the calls leave, each as the call change tells it."""
    calls = list(calls)
    count = len(changes_after(*calls))
    return [tuple(last(*calls, change(number))) for number in range(1, count + 1)]


def editor_after(*calls):
    """The object as the calls leave it, for what no call answers yet."""
    editor = Editor()
    cursor = Cursor(joined(calls))
    while not cursor.at_end():
        CALLS[cursor.take()](editor, cursor)
    return editor


def pieces(editor):
    last_end = editor.document.last_end
    row = [last_end.following]
    while row[-1] != last_end:
        assert row[-1].following.preceding == row[-1]
        row.append(row[-1].following)
    return row


def row_after(*calls):
    """The pieces that the calls leave, each as its sign, own look, insertions, deletions and pending looks."""
    return [(piece.sign, tuple(piece.own_look), list(piece.insertions), list(piece.deletions),
             piece.pending_looks())
            for piece in pieces(editor_after(*calls))]


def signs_after(*calls):
    return "".join(chr(piece[0]) for piece in row_after(*calls))


def changes_after(*calls):
    return [(change.author, change.time, change.kind) for change in editor_after(*calls).document.changes]
