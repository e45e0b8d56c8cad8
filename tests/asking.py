"""How the tests ask: calls are written as lists, and the answers come back call by call."""

from fieldplan.schemas import answers

EXAMPLE = (
    "{1id!i32;2name?t20;3tags*t8;4pos?{1x!i16=0;2y!i16};5shape!<1dot!b;2line!{1len!i8}>;"
    "6attr%{1key!t4;2val?i32}}"
)


def signs(text):
    """The bytes of a text; a list of bytes stays as it is."""
    return list(text.encode("latin-1")) if isinstance(text, str) else list(text)


def row(numbers):
    return [len(numbers)] + list(numbers)


def check(text):
    return [0] + row(signs(text))


def hold(text):
    return [1] + row(signs(text))


def show():
    return [2]


def columns():
    return [3]


def column(number):
    return [4, number]


def find(text):
    return [5] + row(signs(text))


def name(path):
    return [6] + row(path)


def add(path, text):
    return [7] + row(path) + row(signs(text))


def drop(path):
    return [8] + row(path)


def rename(path, text):
    return [9] + row(path) + row(signs(text))


def remode(number, path):
    return [10, number] + row(path)


def rekind(path, text):
    return [11] + row(path) + row(signs(text))


def default(path, text):
    return [12] + row(path) + row(signs(text))


def keep(numbers):
    return [13] + row(numbers)


def ask(*calls):
    """The answers to these calls on one new object, a list for each call."""
    handed = [number for call in calls for number in call]
    before = list(handed)
    given = answers(handed)
    if handed != before:
        raise AssertionError("the list that was handed in has been changed")
    if type(given) is not list or any(type(number) is not int for number in given):
        raise AssertionError(f"not a list of whole numbers: {given!r}")
    return split_answers(given, len(calls))


def split_answers(given, count):
    told = []
    place = 0
    while place < len(given):
        size = given[place]
        told.append(given[place + 1:place + 1 + size])
        place = place + 1 + size
    if place != len(given) or len(told) != count:
        raise AssertionError(f"not {count} answers: {given!r}")
    return told


def shown(text):
    """What show and keep answer where the text is this one."""
    return row(signs(text))


def fault(text):
    """The kind and the place that check answers for one text."""
    return tuple(ask(check(text))[0])


def nested(depth, leaf="b"):
    """A schema with groups that many deep, a field `a` in each and a leaf in the innermost."""
    return "{1a!" * depth + leaf + "}" * depth


def with_leaves(count):
    """A schema with that many leaves in its outermost record."""
    return "{" + ";".join(f"{number}a{number}!b" for number in range(1, count + 1)) + "}"


def with_length(length):
    """A text of that many bytes, about 2000, which is a schema but for its length."""
    head = '{1a!t999="' + "x" * 990 + '";2b!t999="'
    tail = '"}'
    return head + "y" * (length - len(head) - len(tail)) + tail
