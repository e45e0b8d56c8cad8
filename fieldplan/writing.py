"""Writing a schema as text, also one that a change has left so that its text is no schema."""

from fieldplan.fields import is_leaf
from fieldplan.signs import (BACKSLASH, CHOICE_END, EQUALS, QUOTE, RECORD_END, RECORD_START, SEPARATOR,
                             stands_as_itself)

SIXTEENTHS = "0123456789abcdef"


def write_kind(kind):
    """The text of a kind; that of an outermost record is the schema's."""
    if is_leaf(kind):
        return [kind.sign] + write_size(kind)
    text = [kind.sign]
    for place, field in enumerate(kind.fields):
        if place > 0:
            text.append(SEPARATOR)
        text.extend(write_field(field))
    text.append(RECORD_END if kind.sign == RECORD_START else CHOICE_END)
    return text


def write_size(kind):
    if kind.size == 0:
        return []
    return write_number(kind.size)


def write_field(field):
    text = write_number(field.number) + field.name + [field.mode] + write_kind(field.kind)
    if field.default is None:
        return text
    return text + [EQUALS] + write_literal(field.default)


def write_literal(value):
    """The literal of a number or of a text's bytes, whatever kind it stands behind."""
    if isinstance(value, int):
        return write_number(value)
    text = [QUOTE]
    for byte in value:
        text.extend(write_byte(byte))
    text.append(QUOTE)
    return text


def write_byte(byte):
    if stands_as_itself(byte):
        return [byte]
    return [BACKSLASH, ord(SIXTEENTHS[byte // 16]), ord(SIXTEENTHS[byte % 16])]


def write_number(number):
    return [ord(sign) for sign in str(number)]
