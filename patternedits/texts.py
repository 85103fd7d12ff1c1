"""The calls on one document, and their answers."""

from patternedits.characters import are_signs
from patternedits.cursor import Cursor
from patternedits.editor import NO_PROPERTY, Editor
from patternedits.patterns import NoPattern, read_pattern
from patternedits.replacements import NoReplacement, read_replacement

OUTSIDE_TEXT = -1
OUTSIDE_RANGE = -2
TIME_GOES_BACK = -3
NO_SUCH_TEXT = -6

LAST_AUTHOR = 99
LAST_PROPERTY = 3
LAST_VALUE = 99


# Each of the calls takes its own numbers and lists from the cursor, all of them before it refuses anything:
# the next call begins behind them.
def author(editor, cursor):
    number = cursor.take()
    if not 1 <= number <= LAST_AUTHOR:
        return [OUTSIDE_RANGE]
    document = editor.document
    document.author = number
    return [0]


def clock(editor, cursor):
    time = cursor.take()
    document = editor.document
    if time < 0:
        return [OUTSIDE_RANGE]
    if time < document.time:
        return [TIME_GOES_BACK]
    document.time = time
    return [0]


def track(editor, cursor):
    on = cursor.take()
    if not is_switch(on):
        return [OUTSIDE_RANGE]
    document = editor.document
    document.tracking = on == 1
    return [0]


def put(editor, cursor):
    place = cursor.take()
    signs = cursor.take_list()
    document = editor.document
    if not 0 <= place < len(document.shown):
        return [OUTSIDE_TEXT]
    if not signs or not are_signs(signs):
        return [OUTSIDE_RANGE]
    return [document.put(place, signs)]


def cut(editor, cursor):
    begin = cursor.take()
    end = cursor.take()
    document = editor.document
    # The last end is never cut.
    if not 0 <= begin < end < len(document.shown):
        return [OUTSIDE_TEXT]
    return [document.cut(begin, end)]


def paint(editor, cursor):
    begin = cursor.take()
    end = cursor.take()
    which = cursor.take()
    value = cursor.take()
    document = editor.document
    if not 0 <= begin < end <= len(document.shown):
        return [OUTSIDE_TEXT]
    if not is_property(which) or not is_value(value):
        return [OUTSIDE_RANGE]
    return [document.paint(begin, end, which, value)]


def pattern(editor, cursor):
    text = cursor.take_list()
    try:
        editor.pattern = read_pattern(text)
    except NoPattern:
        return [NO_SUCH_TEXT]
    return [len(editor.pattern.pattern_items), editor.pattern.group_count]


def replacement(editor, cursor):
    text = cursor.take_list()
    try:
        editor.replacement = read_replacement(text)
    except NoReplacement:
        return [NO_SUCH_TEXT]
    return [0]


def options(editor, cursor):
    fold = cursor.take()
    which = cursor.take()
    value = cursor.take()
    if not is_switch(fold) or not (which == NO_PROPERTY or is_property(which)) or not is_value(value):
        return [OUTSIDE_RANGE]
    editor.folding = fold == 1
    editor.asked_property = which
    editor.asked_value = value
    return [0]


def is_switch(number):
    return 0 <= number <= 1


def is_property(number):
    return 0 <= number <= LAST_PROPERTY


def is_value(number):
    return 0 <= number <= LAST_VALUE


CALLS = {
    0: author,
    1: clock,
    2: track,
    3: put,
    4: cut,
    5: paint,
    6: pattern,
    7: replacement,
    8: options,
}


def answers(calls):
    cursor = Cursor(calls)
    editor = Editor()
    answered = []
    while not cursor.at_end():
        call = CALLS[cursor.take()]
        answer = call(editor, cursor)
        answered.append(len(answer))
        answered.extend(answer)
    return answered
