"""Reading a replacement from the text in which it is written."""

from patternedits.characters import (
    BACKSLASH, DIGIT_ZERO, LONGEST_TEXT, PARAGRAPH_END, SMALL_N, are_characters, is_digit)
from patternedits.cursor import Cursor

# A part is a pair: one of these, and the sign or the group's number; group 0 is all that was matched.
PART_SIGN = 1
PART_GROUP = 2


class NoReplacement(ValueError):
    pass


def read_replacement(text):
    if len(text) > LONGEST_TEXT or not are_characters(text):
        raise NoReplacement("a replacement has at most 200 characters")
    cursor = Cursor(text)
    parts = []
    while not cursor.at_end():
        parts.append(read_part(cursor))
    return parts


def read_part(cursor):
    character = cursor.take()
    if character != BACKSLASH:
        return (PART_SIGN, character)
    if cursor.at_end():
        raise NoReplacement("a backslash at the end")
    return part_of_escaped(cursor.take())


def part_of_escaped(character):
    if is_digit(character):
        return (PART_GROUP, character - DIGIT_ZERO)
    if character == SMALL_N:
        return (PART_SIGN, PARAGRAPH_END)
    if character == BACKSLASH:
        return (PART_SIGN, BACKSLASH)
    raise NoReplacement("a backslash before what has no meaning behind one")
