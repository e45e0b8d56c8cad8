"""A second way of making the changes, to compare with: pieces of the text itself are cut out and put in.

Texts are str here, with the byte of each character's number. What is a schema is asked by check.
"""

import re

from tests.asking import fault

HEAD = re.compile(r"(\d+)([a-z][a-z0-9_]*)([!?*%])")
LEAF = re.compile(r"b|[it]\d+")
LITERAL = re.compile(r'=(-?\d+|"[^"]*")')


class Spot:
    """Where the parts of one field stand in the text of a schema."""

    def __init__(self, path, head, leaf):
        self.path = path
        self.start = head.start()
        self.name = head.span(2)
        self.mode = head.span(3)
        self.leaf = leaf
        self.kind = (head.end(), head.end())
        self.end = head.end()


def spots(text):
    """Of each field of a schema in the order of its text."""
    found = []
    within = []
    place = 0
    while place < len(text):
        head = HEAD.match(text, place)
        if head:
            leaf = LEAF.match(text, head.end())
            spot = Spot([outer.path[-1] for outer in within] + [int(head.group(1))], head, leaf is not None)
            found.append(spot)
            place = leaf.end() if leaf else head.end() + 1
            if leaf:
                place = finish(spot, text, place)
            else:
                within.append(spot)
        elif text[place] in "}>" and within:
            place = finish(within.pop(), text, place + 1)
        else:
            place += 1
    return found


def finish(spot, text, place):
    """The kind ends at the place; behind it a default may stand."""
    literal = LITERAL.match(text, place)
    spot.kind = (spot.kind[0], place)
    spot.end = literal.end() if literal else place
    return spot.end


def spliced(text, span, piece):
    return text[:span[0]] + piece + text[span[1]:]


def is_schema(text):
    return fault(text)[0] == 0


def change(text, call, arguments):
    """The refusal or 0, and the text that is held then; `call` is one of the names below."""
    spot = ([spot for spot in spots(text) if spot.path == arguments[0]] + [None])[0]
    outermost = call == "add" and arguments[0] == []
    if not outermost and (spot is None or (call == "add" and spot.leaf)):
        return -4, text
    made = MAKERS[call](text, spot, *arguments)
    if isinstance(made, int):
        return made, text
    kind = fault(made)[0]
    return (0, made) if kind == 0 else (-10 - kind, text)


def make_add(text, spot, path, piece):
    if not is_schema("{" + piece + "}"):
        return -5
    inside = (1, len(text) - 1) if spot is None else (spot.kind[0] + 1, spot.kind[1] - 1)
    # sorting leaves equal ones in their order, so of two with one number the new one stands before
    fields = sorted(fields_of("{" + piece + "}", []) + fields_of(text, path), key=lambda field: field[0])
    return spliced(text, inside, ";".join(field[1] for field in fields))


def fields_of(text, path):
    """The number and the text of each field of the group with this path."""
    return [(spot.path[-1], text[spot.start:spot.end]) for spot in spots(text) if spot.path[:-1] == path]


def make_drop(text, spot, path):
    if text[spot.end] == ";":
        return spliced(text, (spot.start, spot.end + 1), "")
    if text[spot.start - 1] == ";":
        return spliced(text, (spot.start - 1, spot.end), "")
    return spliced(text, (spot.start, spot.end), "")


def make_rename(text, spot, path, piece):
    if not re.fullmatch(r"[a-z][a-z0-9_]{0,11}", piece):
        return -5
    return spliced(text, spot.name, piece)


def make_remode(text, spot, path, number):
    if number not in range(4):
        return -6
    return spliced(text, spot.mode, "!?*%"[number])


def make_rekind(text, spot, path, piece):
    whole = "{1a!" + piece + "}"
    if not is_schema(whole) or spots(whole)[0].kind[1] != len(whole) - 1:
        return -5
    return spliced(text, spot.kind, piece)


def make_default(text, spot, path, piece):
    span = (spot.kind[1], spot.end)
    if piece == "":
        return spliced(text, span, "")
    leaf = text[spot.kind[0]:spot.kind[1]]
    if not spot.leaf or not is_schema("{1a!" + leaf + "=" + piece + "}") or not LITERAL.fullmatch("=" + piece):
        return -5
    return spliced(text, span, "=" + piece)


MAKERS = {"add": make_add, "drop": make_drop, "rename": make_rename, "remode": make_remode, "rekind": make_rekind,
          "default": make_default}


def shape(text, numbers):
    """What keep tells: the text of the shape, or -3."""
    every = spots(text)
    leaves = [spot for spot in every if spot.leaf]
    if not numbers or not all(0 <= number < len(leaves) for number in numbers):
        return -3
    stay = [[]] + [leaves[number].path[:size] for number in numbers for size in range(1, 7)]
    # from the end on, so that the places ahead still hold; the field behind a `%` is its key
    for spot, behind in reversed(list(zip(every, every[1:] + [None]))):
        if spot.path not in stay and spot.path[:-1] in stay:
            text = spliced(text, (spot.start, spot.end), "")
        elif spot.path in stay and text[spot.mode[0]] == "%" and behind.path not in stay:
            text = spliced(text, spot.mode, "*")
    return without_lone_separators(text)


def without_lone_separators(text):
    """What cut fields leave between others; literals are not looked into."""
    parts = re.split(r'("[^"]*")', text)
    for place in range(0, len(parts), 2):
        parts[place] = re.sub(r";+", ";", parts[place])
        parts[place] = re.sub(r"([{<]);", r"\1", parts[place])
        parts[place] = re.sub(r";([}>])", r"\1", parts[place])
    return "".join(parts)
