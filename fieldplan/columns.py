"""The columns of a schema, with their paths and levels."""

from fieldplan.fields import is_leaf
from fieldplan.signs import CHOICE_START, MODE_KEYED, MODE_MANY, MODE_ONE


class Column:
    """A leaf's kind, its two levels and its path."""

    def __init__(self, kind, repetition, definition, path):
        self.kind = kind
        self.repetition = repetition
        self.definition = definition
        self.path = path


def columns_of(schema):
    """All columns, in the order of the schema's text."""
    found = []
    gather_columns(schema, 0, 0, [], found)
    return found


def gather_columns(group, repetition, definition, path, found):
    """Put the columns within the group behind those found; levels and path are the group's."""
    for field in group.fields:
        field_repetition = repetition + repetition_step(field)
        field_definition = definition + definition_step(field, group)
        field_path = path + [field.number]
        if is_leaf(field.kind):
            found.append(Column(field.kind, field_repetition, field_definition, field_path))
        else:
            gather_columns(field.kind, field_repetition, field_definition, field_path, found)


def repetition_step(field):
    if field.mode == MODE_MANY or field.mode == MODE_KEYED:
        return 1
    return 0


def definition_step(field, group):
    if field.mode != MODE_ONE or group.sign == CHOICE_START:
        return 1
    return 0
