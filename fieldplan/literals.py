"""Reading literals. The place of each fault of a literal is the place at which the literal begins."""

from fieldplan.faults import MALFORMED, OUT_OF_RANGE, Fault
from fieldplan.fields import is_leaf
from fieldplan.reader import Reader, number_of
from fieldplan.signs import (BACKSLASH, BIT, DIGIT_0, DIGIT_1, LETTER_A, LETTER_F, MINUS, QUOTE, WHOLE, is_digit,
                             stands_as_itself)

# no number in the range of a kind has more digits, so longer runs are not reckoned out
MOST_DIGITS = 19


def literal_or_none(text, kind):
    """The value of the literal of this kind that the whole text is; None if it is none, and for a group."""
    if not is_leaf(kind):
        return None
    reader = Reader(text)
    try:
        value = read_literal(reader, kind)
    except Fault:
        return None
    return value if reader.place == len(text) else None


def read_literal(reader, kind):
    """The value of the literal of this leaf kind: a number, or of a text its bytes."""
    if kind.sign == BIT:
        return read_bit(reader)
    if kind.sign == WHOLE:
        return read_whole(reader, kind.size)
    return read_text(reader, kind.size)


def read_bit(reader):
    sign = reader.sign_here()
    if sign != DIGIT_0 and sign != DIGIT_1:
        raise Fault(MALFORMED, reader.place)
    reader.skip_sign()
    return sign - DIGIT_0


def read_whole(reader, bits):
    start = reader.place
    below_zero = reader.sign_here() == MINUS
    if below_zero:
        reader.skip_sign()
    digits = reader.take_digits()
    if len(digits) == 0:
        raise Fault(MALFORMED, start)
    if digits[0] == DIGIT_0 and (len(digits) > 1 or below_zero):
        raise Fault(MALFORMED, start)
    if len(digits) > MOST_DIGITS:
        raise Fault(OUT_OF_RANGE, start)
    number = number_of(digits)
    if below_zero:
        number = 0 - number
    if not fits_bits(number, bits):
        raise Fault(OUT_OF_RANGE, start)
    return number


def fits_bits(number, bits):
    half = 1
    for bit in range(bits - 1):
        half = half * 2
    return 0 - half <= number < half


def read_text(reader, most):
    start = reader.place
    if reader.sign_here() != QUOTE:
        raise Fault(MALFORMED, start)
    reader.skip_sign()
    content = []
    while reader.sign_here() != QUOTE:
        content.append(read_byte(reader, start))
    reader.skip_sign()
    if len(content) > most:
        raise Fault(OUT_OF_RANGE, start)
    return content


def read_byte(reader, start):
    sign = reader.sign_here()
    reader.skip_sign()
    if sign == BACKSLASH:
        return read_escaped(reader, start)
    if not stands_as_itself(sign):
        raise Fault(MALFORMED, start)
    return sign


def read_escaped(reader, start):
    greater = read_sixteenth(reader, start)
    lesser = read_sixteenth(reader, start)
    byte = 16 * greater + lesser
    # a byte has one way of being written alone
    if stands_as_itself(byte):
        raise Fault(MALFORMED, start)
    return byte


def read_sixteenth(reader, start):
    """The value of the digit of base sixteen at the place."""
    sign = reader.sign_here()
    reader.skip_sign()
    if is_digit(sign):
        return sign - DIGIT_0
    if LETTER_A <= sign <= LETTER_F:
        return sign - LETTER_A + 10
    raise Fault(MALFORMED, start)
