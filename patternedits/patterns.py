"""Reading a pattern from the text in which it is written."""

from patternedits.characters import (
    AT_SIGN, BACKSLASH, COMMA, DIGIT_ZERO, EXCLAMATION_MARK, GREATER_THAN, HYPHEN, LEFT_CURLY, LEFT_ROUND,
    LEFT_SQUARE, LESS_THAN, LONGEST_TEXT, PARAGRAPH_END, QUESTION_MARK, RIGHT_CURLY, RIGHT_ROUND, RIGHT_SQUARE,
    SMALL_N, STAR, TILDE, are_characters, is_digit)
from patternedits.cursor import Cursor

ITEM_UNIT = 1
ITEM_BEGIN = 2
ITEM_END = 3
ITEM_OPENING = 4
ITEM_CLOSING = 5

MOST_ITEMS = 40
MOST_GROUPS = 9
MOST_TIMES = 99


class NoPattern(ValueError):
    pass


# A sign is kept as a said set of itself alone, any as a denied set of nothing, so that all units are of one kind.
# The paragraph's end alone needs care: it lies in a stretch only where it is the sign itself,
# and no denied set fits it.
class Unit:

    def __init__(self, stretches, denied):
        self.stretches = stretches
        self.denied = denied


class Item:

    def __init__(self, kind, unit, least, greatest, greedy):
        self.kind = kind
        self.unit = unit
        self.least = least
        self.greatest = greatest
        self.greedy = greedy


class Pattern:

    def __init__(self, pattern_items, group_count):
        self.pattern_items = pattern_items
        self.group_count = group_count


def read_pattern(text):
    if not 1 <= len(text) <= LONGEST_TEXT or not are_characters(text):
        raise NoPattern("a pattern has 1 to 200 characters")
    cursor = Cursor(text)
    found = []
    while not cursor.at_end():
        found.append(read_item(cursor))
    if len(found) > MOST_ITEMS:
        raise NoPattern("a pattern has at most 40 items")
    return Pattern(found, read_groups(found))


def read_groups(found):
    groups = 0
    previous = None
    within = False
    for item in found:
        if item.kind == ITEM_OPENING:
            if within:
                raise NoPattern("a group is not within another")
            within = True
            groups += 1
        elif item.kind == ITEM_CLOSING:
            if not within or previous == ITEM_OPENING:
                raise NoPattern("a closing ends a group that holds an item")
            within = False
        previous = item.kind
    if within or groups > MOST_GROUPS:
        raise NoPattern("each group is closed, and there are at most 9")
    return groups


def read_item(cursor):
    if take_if(cursor, LESS_THAN):
        return mark(ITEM_BEGIN)
    if take_if(cursor, GREATER_THAN):
        return mark(ITEM_END)
    if take_if(cursor, LEFT_ROUND):
        return mark(ITEM_OPENING)
    if take_if(cursor, RIGHT_ROUND):
        return mark(ITEM_CLOSING)
    # Read apart from the units, for behind it no times may stand.
    if take_if(cursor, STAR):
        return Item(ITEM_UNIT, unit_of_any(), 0, MOST_TIMES, False)
    return read_times(cursor, read_unit(cursor))


def mark(kind):
    return Item(kind, None, 0, 0, True)


def read_unit(cursor):
    character = cursor.take()
    if character == BACKSLASH:
        return unit_of_escaped(take_character(cursor))
    if character == QUESTION_MARK:
        return unit_of_any()
    if character == LEFT_SQUARE:
        return read_set(cursor)
    if character in (RIGHT_SQUARE, LEFT_CURLY, RIGHT_CURLY, AT_SIGN, TILDE):
        raise NoPattern("a character that does not stand for itself")
    return unit_of_sign(character)


def unit_of_any():
    return Unit([], True)


def unit_of_sign(sign):
    return Unit([(sign, sign)], False)


def unit_of_escaped(character):
    return unit_of_sign(PARAGRAPH_END if character == SMALL_N else character)


def read_set(cursor):
    denied = take_if(cursor, EXCLAMATION_MARK)
    stretches = [read_member(cursor)]
    while not take_if(cursor, RIGHT_SQUARE):
        stretches.append(read_member(cursor))
    return Unit(stretches, denied)


def read_member(cursor):
    first = read_member_character(cursor)
    if not take_if(cursor, HYPHEN):
        return (first, first)
    last = read_member_character(cursor)
    if last < first:
        raise NoPattern("a stretch does not end before its first character")
    return (first, last)


# Here \n is the letter: a set never has the paragraph's end.
def read_member_character(cursor):
    character = take_character(cursor)
    if character == BACKSLASH:
        return take_character(cursor)
    if character in (RIGHT_SQUARE, HYPHEN, EXCLAMATION_MARK):
        raise NoPattern("a character that does not stand for itself in a set")
    return character


def read_times(cursor, unit):
    if take_if(cursor, AT_SIGN):
        return read_way(cursor, unit, 1, MOST_TIMES)
    if not take_if(cursor, LEFT_CURLY):
        return Item(ITEM_UNIT, unit, 1, 1, True)
    least = read_count(cursor)
    take_only(cursor, COMMA)
    greatest = read_count(cursor)
    take_only(cursor, RIGHT_CURLY)
    if least > greatest or greatest < 1:
        raise NoPattern("times go from a least number to one that is not less, and at least 1")
    return read_way(cursor, unit, least, greatest)


def read_way(cursor, unit, least, greatest):
    sparing = take_if(cursor, TILDE)
    return Item(ITEM_UNIT, unit, least, greatest, not sparing)


def read_count(cursor):
    count = take_digit(cursor)
    if not cursor.at_end() and is_digit(cursor.peek()):
        count = 10 * count + take_digit(cursor)
    return count


def take_digit(cursor):
    character = take_character(cursor)
    if not is_digit(character):
        raise NoPattern("times are told in digits")
    return character - DIGIT_ZERO


def take_only(cursor, character):
    if not take_if(cursor, character):
        raise NoPattern("times are written as {m,n}")


def take_if(cursor, character):
    if cursor.peek() != character:
        return False
    cursor.take()
    return True


def take_character(cursor):
    if cursor.at_end():
        raise NoPattern("the text ends too early")
    return cursor.take()
