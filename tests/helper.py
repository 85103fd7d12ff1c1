"""What the tests share: writing calls down, and looking at what they left behind."""

from patternedits.cursor import Cursor
from patternedits.editor import Editor
from patternedits.texts import CALLS, answers

HUGE = 10 ** 18
PLAIN = (0, 0, 0, 0)
FAR_OUT = (-HUGE, HUGE)


def codes(text):
    return [ord(character) for character in text]


def as_list(signs):
    signs = codes(signs) if isinstance(signs, str) else list(signs)
    return [len(signs)] + signs


def author(a):
    return [0, a]


def clock(t):
    return [1, t]


def track(on):
    return [2, on]


def put(p, signs):
    return [3, p] + as_list(signs)


def cut(p, q):
    return [4, p, q]


def paint(p, q, k, v):
    return [5, p, q, k, v]


def pattern(text):
    return [6] + as_list(text)


def replacement(text):
    return [7] + as_list(text)


def options(fold, k, v):
    return [8, fold, k, v]


def joined(calls):
    return [number for call in calls for number in call]


def run(*calls):
    """Each call's answer as a list, in order."""
    given = answers(joined(calls))
    found = []
    at = 0
    while at < len(given):
        count = given[at]
        found.append(given[at + 1:at + 1 + count])
        at += 1 + count
    return found


def last(*calls):
    return run(*calls)[-1]


def editor_after(*calls):
    """The object as the calls leave it, for what no call answers yet."""
    editor = Editor()
    cursor = Cursor(joined(calls))
    while not cursor.at_end():
        CALLS[cursor.take()](editor, cursor)
    return editor


def pieces(editor):
    last_end = editor.document.last_end
    row = [last_end.following]
    while row[-1] != last_end:
        assert row[-1].following.preceding == row[-1]
        row.append(row[-1].following)
    return row


def row_after(*calls):
    """The pieces that the calls leave, each as its sign, own look, insertions, deletions and pending looks."""
    return [(piece.sign, tuple(piece.own_look), list(piece.insertions), list(piece.deletions),
             piece.pending_looks())
            for piece in pieces(editor_after(*calls))]


def signs_after(*calls):
    return "".join(chr(piece[0]) for piece in row_after(*calls))


def changes_after(*calls):
    return [(change.author, change.time, change.kind) for change in editor_after(*calls).document.changes]
