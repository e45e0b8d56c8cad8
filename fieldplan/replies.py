"""What each call that changes nothing answers, and hold, as a list: its numbers, or its refusal alone."""

from fieldplan.columns import columns_of
from fieldplan.faults import Fault
from fieldplan.finding import dotted_name, fields_by_names, fields_by_path, split_names
from fieldplan.grammar import read_schema
from fieldplan.refusals import NO_COLUMN, NO_FIELD, NO_SCHEMA
from fieldplan.shapes import shape_of_group
from fieldplan.signs import BIT, WHOLE
from fieldplan.writing import write_kind


def reply_check(text):
    try:
        read_schema(text)
    except Fault as fault:
        return [fault.kind, fault.place]
    return [0, len(text)]


def reply_hold(holder, text):
    try:
        holder.hold_text(text)
    except Fault:
        return [NO_SCHEMA]
    return [0]


def reply_show(holder):
    return [len(holder.text)] + holder.text


def reply_columns(holder):
    return [len(columns_of(holder.schema))]


def reply_column(holder, number):
    columns = columns_of(holder.schema)
    if number < 0 or number >= len(columns):
        return [NO_COLUMN]
    column = columns[number]
    told = [leaf_number(column.kind), column.kind.size, column.repetition, column.definition, len(column.path)]
    return told + column.path


def leaf_number(kind):
    if kind.sign == BIT:
        return 0
    if kind.sign == WHOLE:
        return 1
    return 2


def reply_find(holder, text):
    along = fields_by_names(holder.schema, split_names(text))
    if len(along) == 0:
        return [NO_FIELD]
    path = [field.number for field in along]
    columns = columns_of(holder.schema)
    within = [number for number, column in enumerate(columns) if column.path[:len(path)] == path]
    return [within[0], len(within)] + path


def reply_name(holder, path):
    along = fields_by_path(holder.schema, path)
    if len(along) == 0:
        return [NO_FIELD]
    name = dotted_name(along)
    return [len(name)] + name


def reply_keep(holder, numbers):
    columns = columns_of(holder.schema)
    if len(numbers) == 0 or min(numbers) < 0 or max(numbers) >= len(columns):
        return [NO_COLUMN]
    text = write_kind(shape_of_group(holder.schema, [columns[number].path for number in numbers]))
    return [len(text)] + text
