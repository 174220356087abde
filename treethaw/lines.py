"""The lines of the desk: how orders are read, and how answers are written."""

from treethaw.digits import number_in
from treethaw.machine import is_call
from treethaw.shapes import ARGUMENTS

LONGEST = 13
NUMBERS = ("count", "natural", "number")
ALONE = ("bar", "helpers", "thaw", "state")


def natural_in(word):
    """The number from 0 that is written so, or None."""
    number = number_in(word, LONGEST)
    return number if number is not None and number >= 0 else None


def argument_in(shape, word):
    """The argument of a call that is written so, or None if it must be a number and is none."""
    return number_in(word, LONGEST) if shape in NUMBERS else word


def call_in(words):
    """The call that is written so, or None."""
    if words[0] not in ARGUMENTS or len(words) != len(ARGUMENTS[words[0]]) + 1:
        return None
    shapes = ARGUMENTS[words[0]]
    call = (words[0], *[argument_in(shape, word) for shape, word in zip(shapes, words[1:])])
    return call if is_call(call) else None


def order_in(line):
    """What a line asks for: a name and what belongs to it; None if it is not written as it must be."""
    words = line.split(" ")
    if "" in words:
        return None
    if len(words) == 1:
        return (line,) if line in ALONE else None
    if words[0] == "freeze":
        root = natural_in(words[1])
        return ("freeze", root) if root is not None and len(words) == 2 else None
    number = natural_in(words[0])
    call = call_in(words[1:])
    return ("call", number, call) if number is not None and call is not None else None


def value_words(value):
    """A value that a process is told, in words."""
    if value is None:
        return "none"
    if isinstance(value, bool):
        return "yes" if value else "no"
    if isinstance(value, tuple) and value:
        return " ".join([value_words(item) for item in value])
    return "empty" if value in ((), "") else str(value)


def answer_words(answer):
    """An answer of a machine to one process, in words."""
    if answer == ("told", None):
        return "told"
    return value_words(answer)


def result_words(answer, others):
    """All that a call brings about, in words."""
    parts = [answer_words(answer), *[f"{number} {answer_words(other)}" for number, other in others]]
    return "; ".join(parts)
