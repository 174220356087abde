"""Whether a value has the form of an image: the kind and the range of every part of it.

Python takes True for 1 and finds them equal, so kinds are checked before anything is compared.
"""

from treethaw.limits import CELLS, LETTERS, MOST, ROOM
from treethaw.machine import is_call
from treethaw.shapes import is_number, is_path

# For each kind of thing: how long it is, and which part of an image its index points into.
THINGS = {"file": (3, 5), "reads": (2, 2), "writes": (2, 2), "side": (3, 3), "area": (2, 4)}


def is_within(value, low, high):
    """Whether a value is a number from low to high."""
    return is_number(value) and low <= value <= high


def is_tuple_of(value, size):
    """Whether a value is a tuple of this size."""
    return isinstance(value, tuple) and len(value) == size


def are_all(values, test):
    """Whether a value is a tuple of which each item passes a test."""
    return isinstance(values, tuple) and all([test(item) for item in values])


def is_cells(value):
    """Whether a value is a tuple of as many numbers as there are cells."""
    return is_tuple_of(value, CELLS) and are_all(value, is_number)


def is_file(value):
    """Whether a value tells of a file."""
    if not is_tuple_of(value, 2) or not isinstance(value[1], str):
        return False
    return value[0] is None or isinstance(value[0], str) and is_path(value[0])


def is_pipe(value):
    """Whether a value tells of a pipe."""
    if not is_tuple_of(value, 3) or not isinstance(value[0], str) or len(value[0]) > ROOM:
        return False
    return are_all(value[1], is_number) and are_all(value[2], is_number)


def is_letter(value, many):
    """Whether a value is a letter: a text, or the index of one of so many things."""
    if isinstance(value, str):
        return 1 <= len(value) <= ROOM
    return is_within(value, 0, many - 1)


def is_side(value, many):
    """Whether a value tells of a side of a pair."""
    if not is_tuple_of(value, 3) or not are_all(value[0], lambda letter: is_letter(letter, many)):
        return False
    return len(value[0]) <= LETTERS and are_all(value[1], is_number) and are_all(value[2], is_number)


def is_pair(value, many):
    """Whether a value tells of a pair."""
    return is_tuple_of(value, 2) and is_side(value[0], many) and is_side(value[1], many)


def is_thing(value, image):
    """Whether a value tells of a thing, its pipe, pair, area or file being in the image."""
    if not isinstance(value, tuple) or len(value) == 0 or not isinstance(value[0], str) or value[0] not in THINGS:
        return False
    size, part = THINGS[value[0]]
    if len(value) != size or not is_within(value[1], 0, len(image[part]) - 1):
        return False
    if value[0] == "file":
        return is_within(value[2], 0, len(image[5][value[1]][1]))
    return value[0] != "side" or is_within(value[2], 0, 1)


def is_handle(value, many):
    """Whether a value is a handle with the index of one of so many things."""
    return is_tuple_of(value, 2) and is_number(value[0]) and value[0] >= 0 and is_within(value[1], 0, many - 1)


def is_ascending(values):
    """Whether numbers ascend, none of them twice."""
    return all([one < other for one, other in zip(values, values[1:])])


def is_handles(value, many):
    """Whether a value is a tuple of handles, ascending."""
    return are_all(value, lambda item: is_handle(item, many)) and is_ascending([item[0] for item in value])


def has_call(word, call):
    """Whether a process of this word can have this waiting call, or None."""
    if call is not None and not is_call(call):
        return False
    if call is None:
        return word in ("runs", "stopped")
    return word in ("waits", "stopped")


def is_process(value, many):
    """Whether a value tells of a process that has handles of some of so many things."""
    if not is_tuple_of(value, 10):
        return False
    number, parent, session, group, adopts, word, code, call, cells, handles = value
    if not is_within(number, 2, MOST) or parent is not None and not is_number(parent):
        return False
    if not is_within(session, 1, MOST) or not is_within(group, 1, MOST) or not isinstance(adopts, bool):
        return False
    if word == "ended":
        return not adopts and is_number(code) and call is None and cells == () and handles == ()
    return code is None and has_call(word, call) and is_cells(cells) and is_handles(handles, many)


def has_form(value):
    """Whether a value has the form of an image, part by part."""
    if not is_tuple_of(value, 6) or not are_all(value, lambda part: isinstance(part, tuple)):
        return False
    processes, things, pipes, pairs, areas, files = value
    if not are_all(files, is_file) or not are_all(areas, is_cells) or not are_all(pipes, is_pipe):
        return False
    many = len(things)
    if not are_all(things, lambda thing: is_thing(thing, value)):
        return False
    return are_all(pairs, lambda pair: is_pair(pair, many)) and are_all(processes, lambda row: is_process(row, many))
