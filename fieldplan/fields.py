"""What a schema is made of: fields and their kinds."""

from fieldplan.signs import MODE_ONE, RECORD_START, is_leaf_sign


class Kind:
    """A leaf kind or a group.

    The sign is the one that the kind begins with. The size is the N of a leaf kind, 0 where there is none.
    A leaf kind has no fields.
    """

    def __init__(self, sign, size, fields):
        self.sign = sign
        self.size = size
        self.fields = fields


class Field:
    """A field; its name is a list of bytes, its default a number, a list of bytes or None."""

    def __init__(self, number, name, mode, kind, default):
        self.number = number
        self.name = name
        self.mode = mode
        self.kind = kind
        self.default = default


def is_leaf(kind):
    return is_leaf_sign(kind.sign)


def has_key(kind):
    """Whether the occurrences of a field of this kind can be told apart by a key."""
    if kind.sign != RECORD_START:
        return False
    first = kind.fields[0]
    return first.mode == MODE_ONE and is_leaf(first.kind)
