"""From dotted names and paths to fields, and back to names."""

from fieldplan.signs import DOT


def split_names(text):
    """The names between the dots of a text; where nothing stands, an empty name, which no field has."""
    names = []
    name = []
    for sign in text:
        if sign == DOT:
            names.append(name)
            name = []
        else:
            name.append(sign)
    names.append(name)
    return names


def fields_by_names(schema, names):
    """The fields along these names, the outermost first; none if they lead to no field."""
    return fields_along(schema, names, lambda field: field.name)


def fields_by_path(schema, path):
    """The fields along this path, the outermost first; none if it is the path of no field."""
    return fields_along(schema, path, lambda field: field.number)


def fields_along(schema, steps, step_of):
    """The fields that the steps lead through, where step_of tells the step that leads to a field."""
    along = []
    fields = schema.fields
    for step in steps:
        matching = [field for field in fields if step_of(field) == step]
        if len(matching) == 0:
            return []
        along.append(matching[0])
        fields = matching[0].kind.fields
    return along


def dotted_name(along):
    """The dotted name of the last of these fields along a path."""
    signs = list(along[0].name)
    for field in along[1:]:
        signs.append(DOT)
        signs.extend(field.name)
    return signs
