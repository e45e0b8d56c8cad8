"""The calls that change the schema: each changes a copy, which is held if its text is a schema."""

from fieldplan.faults import Fault
from fieldplan.fields import is_leaf
from fieldplan.finding import fields_by_path
from fieldplan.grammar import is_name, schema_or_none
from fieldplan.literals import literal_or_none
from fieldplan.refusals import NO_FIELD, NO_MODE, UNFIT_TEXT, UNSETTLED
from fieldplan.signs import DIGIT_1, LETTER_A, MODE_ONE, NO_SIGN, RECORD_END, RECORD_START, mode_by_number
from fieldplan.writing import write_kind


def settle(holder, changed):
    """Hold the changed schema, or refuse it by the first fault of its text."""
    try:
        holder.hold_text(write_kind(changed))
    except Fault as fault:
        return [UNSETTLED - fault.kind]
    return [0]


def field_or_none(schema, path):
    along = fields_by_path(schema, path)
    if len(along) == 0:
        return None
    return along[-1]


def group_or_none(schema, path):
    """The group that the path tells; the empty path tells the outermost record."""
    if len(path) == 0:
        return schema
    field = field_or_none(schema, path)
    if field is None or is_leaf(field.kind):
        return None
    return field.kind


def reply_add(holder, path, text):
    schema = holder.schema_to_change()
    group = group_or_none(schema, path)
    if group is None:
        return [NO_FIELD]
    added = schema_or_none([RECORD_START] + text + [RECORD_END])
    if added is None:
        return [UNFIT_TEXT]
    for field in added.fields:
        put_field(group, field)
    return settle(holder, schema)


def put_field(group, field):
    """Put the field before the first one whose number is not less, or at the end."""
    place = 0
    while place < len(group.fields) and group.fields[place].number < field.number:
        place = place + 1
    group.fields.insert(place, field)


def reply_drop(holder, path):
    schema = holder.schema_to_change()
    if field_or_none(schema, path) is None:
        return [NO_FIELD]
    group = group_or_none(schema, path[:-1])
    group.fields = [field for field in group.fields if field.number != path[-1]]
    return settle(holder, schema)


def reply_rename(holder, path, text):
    return change_field(holder, path, lambda field: change_name(field, text))


def reply_remode(holder, number, path):
    return change_field(holder, path, lambda field: change_mode(field, number))


def reply_rekind(holder, path, text):
    return change_field(holder, path, lambda field: change_kind(field, text))


def reply_default(holder, path, text):
    return change_field(holder, path, lambda field: change_default(field, text))


def change_field(holder, path, change):
    """Change the field that the path tells; `change` is handed the field, and answers 0 or a refusal."""
    schema = holder.schema_to_change()
    field = field_or_none(schema, path)
    if field is None:
        return [NO_FIELD]
    answer = change(field)
    if answer < 0:
        return [answer]
    return settle(holder, schema)


def change_name(field, text):
    if not is_name(text):
        return UNFIT_TEXT
    field.name = text
    return 0


def change_mode(field, number):
    mode = mode_by_number(number)
    if mode == NO_SIGN:
        return NO_MODE
    field.mode = mode
    return 0


def change_kind(field, text):
    kind = kind_or_none(text)
    if kind is None:
        return UNFIT_TEXT
    field.kind = kind
    return 0


def kind_or_none(text):
    """The kind that the whole text tells, and nothing beside it."""
    schema = schema_or_none([RECORD_START, DIGIT_1, LETTER_A, MODE_ONE] + text + [RECORD_END])
    if schema is None or len(schema.fields) > 1 or schema.fields[0].default is not None:
        return None
    return schema.fields[0].kind


def change_default(field, text):
    if len(text) == 0:
        field.default = None
        return 0
    value = literal_or_none(text, field.kind)
    if value is None:
        return UNFIT_TEXT
    field.default = value
    return 0
