"""The calls about cells, handles, and the things to which these lead."""

from treethaw.limits import CELLS, ROOM
from treethaw.rows import begin
from treethaw.world import (
    Pipe, Side, exists, file_at, is_alive, new_file, new_handle, new_serial, partner, sweep, thing_at,
)


def do_get(world, caller, cell):
    """The number in a cell of the caller."""
    if cell >= CELLS:
        return ("refused", "place")
    return ("told", caller.cells[cell])


def do_set(world, caller, cell, value):
    """Puts a number into a cell of the caller."""
    if cell >= CELLS:
        return ("refused", "place")
    caller.cells[cell] = value
    return ("told", None)


def do_make(world, caller, path, text):
    """A new file."""
    if file_at(world, path) is not None:
        return ("refused", "taken")
    new_file(world, path, text)
    return ("told", None)


def do_remove(world, caller, path):
    """Takes the path from a file, which lasts while an opening of it is held."""
    at = file_at(world, path)
    if at is None:
        return ("refused", "no path")
    file = world.files[at]
    file.path = None
    sweep(world)
    return ("told", None)


def give(world, caller, thing):
    """Makes a new thing, and returns the new handle that leads to it."""
    serial = new_serial(world)
    world.things[serial] = thing
    return new_handle(caller, serial)


def do_open(world, caller, path):
    """A new opening of a file."""
    at = file_at(world, path)
    if at is None:
        return ("refused", "no path")
    return ("told", give(world, caller, ("file", at, 0)))


def do_seek(world, caller, handle, place):
    """Sets the place of an opening."""
    thing = thing_at(world, caller, handle)
    if thing is None:
        return ("refused", "no handle")
    if thing[0] != "file":
        return ("refused", "kind")
    if place > len(world.files[thing[1]].text):
        return ("refused", "place")
    world.things[caller.handles[handle]] = ("file", thing[1], place)
    return ("told", None)


def do_pipe(world, caller):
    """A new pipe: handles of its reading and its writing end."""
    at = new_serial(world)
    world.pipes[at] = Pipe("", [], [])
    reading = give(world, caller, ("reads", at))
    return ("told", (reading, give(world, caller, ("writes", at))))


def do_pair(world, caller):
    """A new pair: handles of its sides 0 and 1."""
    at = new_serial(world)
    world.sides[(at, 0)] = Side([], [], [])
    world.sides[(at, 1)] = Side([], [], [])
    left = give(world, caller, ("side", at, 0))
    return ("told", (left, give(world, caller, ("side", at, 1))))


def do_area(world, caller):
    """A new area with zeros."""
    at = new_serial(world)
    world.areas[at] = [0] * CELLS
    return ("told", give(world, caller, ("area", at)))


def do_copy(world, caller, handle, to):
    """Makes the handle `to` lead where another one leads; what it led to is let go."""
    if handle not in caller.handles:
        return ("refused", "no handle")
    caller.handles[to] = caller.handles[handle]
    sweep(world)
    return ("told", to)


def do_close(world, caller, handle):
    """Gives a handle up."""
    if handle not in caller.handles:
        return ("refused", "no handle")
    del caller.handles[handle]
    sweep(world)
    return ("told", None)


def do_handles(world, caller):
    """The handles of the caller."""
    return ("told", tuple(sorted(caller.handles)))


def do_same(world, caller, handle, who, other):
    """Whether a handle of the caller and one of a process lead to the same thing."""
    if handle not in caller.handles:
        return ("refused", "no handle")
    if not is_alive(world, who):
        return ("refused", "no process")
    handles = world.processes[who].handles
    if other not in handles:
        return ("refused", "no handle")
    return ("told", caller.handles[handle] == handles[other])


def area_refusal(thing, cell):
    """Why there is no such cell of an area, or None."""
    if thing is None:
        return "no handle"
    if thing[0] != "area":
        return "kind"
    return "place" if cell >= CELLS else None


def do_peek(world, caller, handle, cell):
    """The number in a cell of an area."""
    thing = thing_at(world, caller, handle)
    word = area_refusal(thing, cell)
    if word is not None:
        return ("refused", word)
    return ("told", world.areas[thing[1]][cell])


def do_poke(world, caller, handle, cell, value):
    """Puts a number into a cell of an area."""
    thing = thing_at(world, caller, handle)
    word = area_refusal(thing, cell)
    if word is not None:
        return ("refused", word)
    world.areas[thing[1]][cell] = value
    return ("told", None)


def read_file(world, serial, many):
    """Reads from an opening, whose place moves."""
    kind, at, place = world.things[serial]
    text = world.files[at].text[place:place + many]
    world.things[serial] = (kind, at, place + len(text))
    return ("told", text)


def write_file(world, serial, text):
    """Writes to an opening, whose place moves."""
    kind, at, place = world.things[serial]
    file = world.files[at]
    behind = place + len(text)
    file.text = file.text[:place] + text + file.text[behind:]
    world.things[serial] = (kind, at, behind)
    return ("told", len(text))


def do_read(world, caller, handle, many):
    """Takes characters, or a letter, out of a thing."""
    thing = thing_at(world, caller, handle)
    if thing is None:
        return ("refused", "no handle")
    if thing[0] in ("writes", "area"):
        return ("refused", "kind")
    if thing[0] == "file":
        return read_file(world, caller.handles[handle], many)
    return begin(world, caller, ("read", handle, many))


def do_write(world, caller, handle, text):
    """Puts characters into a thing, or a letter into the row of the other side."""
    thing = thing_at(world, caller, handle)
    if thing is None:
        return ("refused", "no handle")
    if thing[0] in ("reads", "area"):
        return ("refused", "kind")
    if thing[0] == "file":
        return write_file(world, caller.handles[handle], text)
    if len(text) > ROOM:
        return ("refused", "long")
    if not exists(world, partner(thing)):
        return ("refused", "alone")
    return begin(world, caller, ("write", handle, text))


def do_pass(world, caller, handle, what):
    """Puts a thing into the row of the other side."""
    thing = thing_at(world, caller, handle)
    if thing is None:
        return ("refused", "no handle")
    if thing[0] != "side":
        return ("refused", "kind")
    if what not in caller.handles:
        return ("refused", "no handle")
    if not exists(world, partner(thing)):
        return ("refused", "alone")
    return begin(world, caller, ("pass", handle, what))


def do_take(world, caller, handle):
    """Takes a thing out of the row of a side."""
    thing = thing_at(world, caller, handle)
    if thing is None:
        return ("refused", "no handle")
    if thing[0] != "side":
        return ("refused", "kind")
    return begin(world, caller, ("take", handle))


THING_CALLS = {
    "get": do_get,
    "set": do_set,
    "make": do_make,
    "remove": do_remove,
    "open": do_open,
    "seek": do_seek,
    "pipe": do_pipe,
    "pair": do_pair,
    "area": do_area,
    "copy": do_copy,
    "close": do_close,
    "handles": do_handles,
    "same": do_same,
    "peek": do_peek,
    "poke": do_poke,
    "read": do_read,
    "write": do_write,
    "pass": do_pass,
    "take": do_take,
}
