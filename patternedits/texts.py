"""The calls on one document, and their answers."""

from patternedits.characters import are_signs
from patternedits.cursor import Cursor
from patternedits.editor import NO_PROPERTY, Editor
from patternedits.patterns import NoPattern, read_pattern
from patternedits.replacements import NoReplacement, read_replacement
from patternedits.replacing import replace_matches, replacement_length, replacement_signs, shown_afterwards
from patternedits.search import Search

NOT_REFUSED = 0
OUTSIDE_TEXT = -1
OUTSIDE_RANGE = -2
TIME_GOES_BACK = -3
NOT_THERE = -4
TOO_LONG = -5
NO_SUCH_TEXT = -6
NO_PATTERN = -8

LAST_AUTHOR = 99
LAST_PROPERTY = 3
LAST_VALUE = 99

LONGEST_REPLACEMENT = 2000
MOST_SHOWN = 2001

AS_SHOWN = 1
AS_IT_WAS = 2


# Each of the calls takes its own numbers and lists from the cursor, all of them before it refuses anything:
# the next call begins behind them.
def author(editor, cursor):
    number = cursor.take()
    if not 1 <= number <= LAST_AUTHOR:
        return [OUTSIDE_RANGE]
    document = editor.document
    document.author = number
    return [0]


def clock(editor, cursor):
    time = cursor.take()
    document = editor.document
    if time < 0:
        return [OUTSIDE_RANGE]
    if time < document.time:
        return [TIME_GOES_BACK]
    document.time = time
    return [0]


def track(editor, cursor):
    on = cursor.take()
    if not is_switch(on):
        return [OUTSIDE_RANGE]
    document = editor.document
    document.tracking = on == 1
    return [0]


def put(editor, cursor):
    place = cursor.take()
    signs = cursor.take_list()
    document = editor.document
    if not 0 <= place < len(document.shown):
        return [OUTSIDE_TEXT]
    if not signs or not are_signs(signs):
        return [OUTSIDE_RANGE]
    return [document.put(place, signs)]


def cut(editor, cursor):
    begin = cursor.take()
    end = cursor.take()
    document = editor.document
    # The last end is never cut.
    if not 0 <= begin < end < len(document.shown):
        return [OUTSIDE_TEXT]
    return [document.cut(begin, end)]


def paint(editor, cursor):
    begin = cursor.take()
    end = cursor.take()
    which = cursor.take()
    value = cursor.take()
    document = editor.document
    if not 0 <= begin < end <= len(document.shown):
        return [OUTSIDE_TEXT]
    if not is_property(which) or not is_value(value):
        return [OUTSIDE_RANGE]
    return [document.paint(begin, end, which, value)]


def pattern(editor, cursor):
    text = cursor.take_list()
    try:
        editor.pattern = read_pattern(text)
    except NoPattern:
        return [NO_SUCH_TEXT]
    return [len(editor.pattern.pattern_items), editor.pattern.group_count]


def replacement(editor, cursor):
    text = cursor.take_list()
    try:
        editor.replacement = read_replacement(text)
    except NoReplacement:
        return [NO_SUCH_TEXT]
    return [0]


def options(editor, cursor):
    fold = cursor.take()
    which = cursor.take()
    value = cursor.take()
    if not is_switch(fold) or not (which == NO_PROPERTY or is_property(which)) or not is_value(value):
        return [OUTSIDE_RANGE]
    editor.folding = fold == 1
    editor.asked_property = which
    editor.asked_value = value
    return [0]


def find_first(editor, cursor):
    begin = cursor.take()
    refusal = refusal_of_search(editor, begin, begin)
    if refusal != NOT_REFUSED:
        return [refusal]
    found = search_to_end(editor).first_match(begin)
    return [0, 0, 0] if found is None else [1, found.begin, found.end]


def tell_match(editor, cursor):
    outcome = match_or_refusal(editor, cursor.take())
    if outcome[0] != NOT_REFUSED:
        return [outcome[0]]
    found = outcome[1]
    signs = replacement_signs(editor.document, editor.replacement, found)
    return [found.end, editor.pattern.group_count] + found.groups + [len(signs)] + signs


def list_matches(editor, cursor):
    begin = cursor.take()
    end = cursor.take()
    refusal = refusal_of_search(editor, begin, end)
    if refusal != NOT_REFUSED:
        return [refusal]
    matches = Search(editor, end).matches_from(begin)
    answer = [len(matches)]
    for found in matches:
        answer.append(found.begin)
        answer.append(found.end)
    return answer


def replace_one(editor, cursor):
    begin = cursor.take()
    outcome = match_or_refusal(editor, begin)
    if outcome[0] != NOT_REFUSED:
        return [outcome[0]]
    matches = [outcome[1]]
    if shown_afterwards(editor.document, editor.replacement, matches) > MOST_SHOWN:
        return [TOO_LONG]
    end = begin + replacement_length(editor.replacement, outcome[1])
    counts = replace_matches(editor.document, editor.replacement, matches)
    return [end, counts[0], counts[1]]


def replace_all(editor, cursor):
    begin = cursor.take()
    end = cursor.take()
    refusal = refusal_of_search(editor, begin, end)
    if refusal != NOT_REFUSED:
        return [refusal]
    matches = Search(editor, end).matches_from(begin)
    if any([has_too_long_replacement(editor, found) for found in matches]):
        return [TOO_LONG]
    if shown_afterwards(editor.document, editor.replacement, matches) > MOST_SHOWN:
        return [TOO_LONG]
    counts = replace_matches(editor.document, editor.replacement, matches)
    return [len(matches), counts[0], counts[1]]


def paint_all(editor, cursor):
    begin = cursor.take()
    end = cursor.take()
    which = cursor.take()
    value = cursor.take()
    refusal = refusal_of_search(editor, begin, end)
    if refusal != NOT_REFUSED:
        return [refusal]
    if not is_property(which) or not is_value(value):
        return [OUTSIDE_RANGE]
    matches = Search(editor, end).matches_from(begin)
    document = editor.document
    entered_before = len(document.changes)
    for found in reversed(matches):
        document.paint(found.begin, found.end, which, value)
    return [len(matches), len(document.changes) - entered_before]


def tell_text(editor, cursor):
    way = cursor.take()
    if way == AS_SHOWN:
        return text_as_shown(editor.document)
    if way == AS_IT_WAS:
        return text_as_it_was(editor.document)
    return [OUTSIDE_RANGE]


def tell_row(editor, cursor):
    pieces = editor.document.row_pieces()
    answer = [len(pieces)]
    for piece in pieces:
        answer.append(piece.sign)
        answer.extend(piece.own_look)
        answer.append(len(piece.insertions))
        answer.extend(piece.insertions)
        answer.append(len(piece.deletions))
        answer.extend(piece.deletions)
        pending = piece.pending_looks()
        answer.append(len(pending))
        for entry in pending:
            answer.extend(entry)
    return answer


def tell_change(editor, cursor):
    number = cursor.take()
    document = editor.document
    if not 1 <= number <= len(document.changes):
        return [NOT_THERE]
    change = document.changes[number - 1]
    return [change.author, change.time, change.kind, change.bearer_count]


def refusal_of_search(editor, begin, end):
    if editor.pattern is None:
        return NO_PATTERN
    if not 0 <= begin <= end < len(editor.document.shown):
        return OUTSIDE_TEXT
    return NOT_REFUSED


# A pair: the refusal and None, or NOT_REFUSED and the match.
def match_or_refusal(editor, begin):
    refusal = refusal_of_search(editor, begin, begin)
    if refusal != NOT_REFUSED:
        return (refusal, None)
    found = search_to_end(editor).match_at(begin)
    if found is None:
        return (NOT_THERE, None)
    if has_too_long_replacement(editor, found):
        return (TOO_LONG, None)
    return (NOT_REFUSED, found)


def has_too_long_replacement(editor, found):
    return replacement_length(editor.replacement, found) > LONGEST_REPLACEMENT


def search_to_end(editor):
    return Search(editor, len(editor.document.shown) - 1)


def text_as_shown(document):
    answer = [len(document.shown)]
    for piece in document.shown:
        answer.append(piece.sign)
        answer.extend(piece.shown_look)
    return answer


def text_as_it_was(document):
    pieces = [piece for piece in document.row_pieces() if not piece.insertions]
    answer = [len(pieces)]
    for piece in pieces:
        answer.append(piece.sign)
        answer.extend(piece.own_look)
    return answer


def is_switch(number):
    return 0 <= number <= 1


def is_property(number):
    return 0 <= number <= LAST_PROPERTY


def is_value(number):
    return 0 <= number <= LAST_VALUE


CALLS = {
    0: author,
    1: clock,
    2: track,
    3: put,
    4: cut,
    5: paint,
    6: pattern,
    7: replacement,
    8: options,
    9: find_first,
    10: tell_match,
    11: list_matches,
    12: replace_one,
    13: replace_all,
    14: paint_all,
    15: tell_text,
    16: tell_row,
    17: tell_change,
}


def answers(calls):
    cursor = Cursor(calls)
    editor = Editor()
    answered = []
    while not cursor.at_end():
        call = CALLS[cursor.take()]
        answer = call(editor, cursor)
        answered.append(len(answer))
        answered.extend(answer)
    return answered
