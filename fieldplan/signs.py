"""The signs of a schema's text, each as the number of its byte."""

RECORD_START = 123
RECORD_END = 125
CHOICE_START = 60
CHOICE_END = 62
SEPARATOR = 59
EQUALS = 61
MINUS = 45
QUOTE = 34
BACKSLASH = 92
DOT = 46
UNDERSCORE = 95

MODE_ONE = 33
MODE_PERHAPS = 63
MODE_MANY = 42
MODE_KEYED = 37

BIT = 98
WHOLE = 105
TEXT = 116

DIGIT_0 = 48
DIGIT_1 = 49
DIGIT_9 = 57
LETTER_A = 97
LETTER_F = 102
LETTER_Z = 122
BLANK = 32
TILDE = 126

# stands where a text has ended, so that no byte equals it
NO_SIGN = -1


def is_digit(sign):
    return DIGIT_0 <= sign <= DIGIT_9


def is_letter(sign):
    return LETTER_A <= sign <= LETTER_Z


def is_name_sign(sign):
    return is_letter(sign) or is_digit(sign) or sign == UNDERSCORE


def is_mode(sign):
    return sign in (MODE_ONE, MODE_PERHAPS, MODE_MANY, MODE_KEYED)


def mode_by_number(number):
    """The sign of the mode that a call tells by its number; NO_SIGN if no mode has this number."""
    modes = (MODE_ONE, MODE_PERHAPS, MODE_MANY, MODE_KEYED)
    if 0 <= number < len(modes):
        return modes[number]
    return NO_SIGN


def is_leaf_sign(sign):
    return sign in (BIT, WHOLE, TEXT)


def stands_as_itself(byte):
    """Whether a text literal has this byte as one sign, not behind a backslash."""
    return BLANK <= byte <= TILDE and byte != QUOTE and byte != BACKSLASH
