"""The numbers that stand for characters, and what kinds of them there are."""

PARAGRAPH_END = 10
FIRST_CHARACTER = 32
LAST_CHARACTER = 126

# How long a pattern's or a replacement's text may be.
LONGEST_TEXT = 200

EXCLAMATION_MARK = 33
LEFT_ROUND = 40
RIGHT_ROUND = 41
STAR = 42
COMMA = 44
HYPHEN = 45
DIGIT_ZERO = 48
DIGIT_NINE = 57
LESS_THAN = 60
GREATER_THAN = 62
QUESTION_MARK = 63
AT_SIGN = 64
GREAT_A = 65
GREAT_Z = 90
LEFT_SQUARE = 91
BACKSLASH = 92
RIGHT_SQUARE = 93
SMALL_A = 97
SMALL_N = 110
SMALL_Z = 122
LEFT_CURLY = 123
RIGHT_CURLY = 125
TILDE = 126


def is_character(number):
    return FIRST_CHARACTER <= number <= LAST_CHARACTER


def is_sign(number):
    return number == PARAGRAPH_END or is_character(number)


def is_digit(number):
    return DIGIT_ZERO <= number <= DIGIT_NINE


def is_great_letter(number):
    return GREAT_A <= number <= GREAT_Z


def is_small_letter(number):
    return SMALL_A <= number <= SMALL_Z


def is_word_sign(number):
    return is_digit(number) or is_great_letter(number) or is_small_letter(number)


def other_case(number):
    if is_great_letter(number):
        return number + SMALL_A - GREAT_A
    if is_small_letter(number):
        return number - SMALL_A + GREAT_A
    return number


def are_characters(numbers):
    return all([is_character(number) for number in numbers])


def are_signs(numbers):
    return all([is_sign(number) for number in numbers])
