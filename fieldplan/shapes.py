"""The shape that some columns leave of a schema."""

from fieldplan.fields import Field, Kind, is_leaf
from fieldplan.signs import MODE_KEYED, MODE_MANY


def shape_of_group(group, paths):
    """The group with those fields alone that a path leads to; the paths start in this group."""
    fields = []
    for field in group.fields:
        within = [path[1:] for path in paths if path[0] == field.number]
        if len(within) > 0:
            fields.append(shape_of_field(field, within))
    return Kind(group.sign, group.size, fields)


def shape_of_field(field, paths):
    if is_leaf(field.kind):
        return field
    kind = shape_of_group(field.kind, paths)
    mode = field.mode
    if mode == MODE_KEYED and lost_first(field.kind, kind):
        mode = MODE_MANY
    return Field(field.number, field.name, mode, kind, field.default)


def lost_first(group, shape):
    return shape.fields[0].number != group.fields[0].number
