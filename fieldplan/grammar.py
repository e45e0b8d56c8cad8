"""Reading a whole schema, field by field, up to its end or its first fault."""

from fieldplan.faults import (DEFAULT_MISPLACED, MALFORMED, MODE_IN_CHOICE, NAME_TWICE, NO_KEY, NUMBER_NOT_GREATER,
                              OUT_OF_RANGE, TOO_DEEP, TOO_LONG, TOO_MANY_LEAVES, Fault)
from fieldplan.fields import Field, Kind, has_key, is_leaf
from fieldplan.literals import read_literal
from fieldplan.reader import Reader, number_of
from fieldplan.signs import (BIT, CHOICE_END, CHOICE_START, DIGIT_0, EQUALS, MODE_KEYED, MODE_ONE, RECORD_END,
                             RECORD_START, SEPARATOR, WHOLE, is_leaf_sign, is_letter, is_mode, is_name_sign)

MOST_BYTES = 2000
MOST_DEPTH = 6
MOST_LEAVES = 40
MOST_NAME_SIGNS = 12
MOST_NUMBER_DIGITS = 3
LEAST_BITS = 2
MOST_BITS = 64


def read_schema(text):
    """The outermost record of the text; raises the first Fault of a text that is no schema."""
    if len(text) > MOST_BYTES:
        raise Fault(TOO_LONG, MOST_BYTES)
    reader = Reader(text)
    if reader.sign_here() != RECORD_START:
        raise Fault(MALFORMED, 0)
    schema = read_group(reader, 1)
    if reader.place < len(text):
        raise Fault(MALFORMED, reader.place)
    return schema


def schema_or_none(text):
    try:
        return read_schema(text)
    except Fault:
        return None


def read_group(reader, depth):
    group = Kind(reader.sign_here(), 0, [])
    closing = RECORD_END if group.sign == RECORD_START else CHOICE_END
    reader.skip_sign()
    group.fields.append(read_field(reader, group, depth))
    while reader.sign_here() == SEPARATOR:
        reader.skip_sign()
        group.fields.append(read_field(reader, group, depth))
    if reader.sign_here() != closing:
        raise Fault(MALFORMED, reader.place)
    reader.skip_sign()
    return group


def read_field(reader, group, depth):
    """The next field of the group, which has the fields before it alone so far."""
    number = read_number(reader, group)
    name = read_name(reader, group)
    mode_place = reader.place
    mode = read_mode(reader, group)
    kind = read_kind(reader, depth)
    if mode == MODE_KEYED and not has_key(kind):
        raise Fault(NO_KEY, mode_place)
    field = Field(number, name, mode, kind, None)
    if reader.sign_here() == EQUALS:
        field.default = read_default(reader, group, field)
    return field


def read_number(reader, group):
    start = reader.place
    number = short_number(reader.take_digits())
    if number == 0:
        raise Fault(MALFORMED, start)
    # the numbers rise, so the field just before has the greatest so far
    if len(group.fields) > 0 and number <= group.fields[-1].number:
        raise Fault(NUMBER_NOT_GREATER, start)
    return number


def short_number(digits):
    """The number that one to three digits without a zero in front tell; 0 if these are not such digits."""
    if len(digits) == 0 or len(digits) > MOST_NUMBER_DIGITS or digits[0] == DIGIT_0:
        return 0
    return number_of(digits)


def read_name(reader, group):
    start = reader.place
    name = reader.take_name_signs()
    if not is_name(name):
        raise Fault(MALFORMED, start)
    for field in group.fields:
        if field.name == name:
            raise Fault(NAME_TWICE, start)
    return name


def is_name(text):
    if len(text) == 0 or len(text) > MOST_NAME_SIGNS or not is_letter(text[0]):
        return False
    return all([is_name_sign(sign) for sign in text])


def read_mode(reader, group):
    mode = reader.sign_here()
    if not is_mode(mode):
        raise Fault(MALFORMED, reader.place)
    if group.sign == CHOICE_START and mode != MODE_ONE:
        raise Fault(MODE_IN_CHOICE, reader.place)
    reader.skip_sign()
    return mode


def read_kind(reader, depth):
    """The kind of a field whose own group is at this depth."""
    sign = reader.sign_here()
    if sign == RECORD_START or sign == CHOICE_START:
        if depth == MOST_DEPTH:
            raise Fault(TOO_DEEP, reader.place)
        return read_group(reader, depth + 1)
    if is_leaf_sign(sign):
        return read_leaf(reader)
    raise Fault(MALFORMED, reader.place)


def read_leaf(reader):
    start = reader.place
    sign = reader.sign_here()
    reader.skip_sign()
    size = 0
    if sign != BIT:
        size = short_number(reader.take_digits())
        if size == 0:
            raise Fault(MALFORMED, start)
        # three digits tell no number that is out of the range of a text's size
        if sign == WHOLE and not LEAST_BITS <= size <= MOST_BITS:
            raise Fault(OUT_OF_RANGE, start)
    if reader.leaves == MOST_LEAVES:
        raise Fault(TOO_MANY_LEAVES, start)
    reader.leaves = reader.leaves + 1
    return Kind(sign, size, [])


def read_default(reader, group, field):
    if group.sign != RECORD_START or field.mode != MODE_ONE or not is_leaf(field.kind):
        raise Fault(DEFAULT_MISPLACED, reader.place)
    reader.skip_sign()
    return read_literal(reader, field.kind)
