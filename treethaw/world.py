"""What a machine consists of, and which things of it are held.

Things, pipes, pairs, areas and files have numbers of their own (serials) that
no call shows. A thing is one of the tuples ("file", file, place),
("reads", pipe), ("writes", pipe), ("side", pair, 0 or 1), ("area", area).
"""

from treethaw.limits import CELLS
from treethaw.walks import walk

FIRST = 1


class Process:
    """A process: code is None until it has ended, call is its waiting call or None."""

    def __init__(self, number, parent, session, group):
        self.number = number
        self.parent = parent
        self.session = session
        self.group = group
        self.adopts = False
        self.stopped = False
        self.code = None
        self.call = None
        self.cells = [0] * CELLS
        self.handles = {}

    def runs(self):
        """Whether it can make a call."""
        return self.code is None and self.call is None and not self.stopped

    def twin(self):
        """An equal process that shares nothing with this one."""
        other = Process(self.number, self.parent, self.session, self.group)
        other.adopts = self.adopts
        other.stopped = self.stopped
        other.code = self.code
        other.call = self.call
        other.cells = list(self.cells)
        other.handles = dict(self.handles)
        return other


class File:
    """A file: path is None once it was removed."""

    def __init__(self, path, text):
        self.path = path
        self.text = text


class Pipe:
    """A pipe: its text, and the numbers of the processes in its two rows."""

    def __init__(self, text, takes, puts):
        self.text = text
        self.takes = takes
        self.puts = puts


class Side:
    """A side of a pair: the letters that were sent to it, and its two rows.

    A letter is a text, or the serial of a thing. The calls in puts go through
    this side, so they wait to put a letter into the row of the other side.
    """

    def __init__(self, letters, takes, puts):
        self.letters = letters
        self.takes = takes
        self.puts = puts


class World:
    """All that a machine consists of, each kind by its numbers.

    Sides are known by (pair, 0 or 1). answered collects what the present call
    answers to waiting ones, also from within a sendall; it is empty between calls.
    """

    def __init__(self):
        first = Process(FIRST, None, FIRST, FIRST)
        first.adopts = True
        self.processes = {FIRST: first}
        self.files = {}
        self.things = {}
        self.pipes = {}
        self.sides = {}
        self.areas = {}
        self.serial = 0
        self.answered = {}

    def twin(self):
        """An equal world that shares nothing with this one."""
        other = World()
        other.processes = {at: process.twin() for at, process in self.processes.items()}
        other.files = {at: File(file.path, file.text) for at, file in self.files.items()}
        other.things = {at: self.things[at] for at in self.things}
        other.pipes = {at: Pipe(pipe.text, list(pipe.takes), list(pipe.puts)) for at, pipe in self.pipes.items()}
        other.sides = {
            at: Side(list(side.letters), list(side.takes), list(side.puts)) for at, side in self.sides.items()
        }
        other.areas = {at: list(self.areas[at]) for at in self.areas}
        other.serial = self.serial
        return other


def new_serial(world):
    """A serial that nothing else in this world has or had."""
    world.serial += 1
    return world.serial


def children(world, number):
    """The ascending list of the children of a process, ended ones included."""
    return [at for at in sorted(world.processes) if world.processes[at].parent == number]


def is_alive(world, number):
    """Whether this is the number of a process that has not ended."""
    return number in world.processes and world.processes[number].code is None


def new_file(world, path, text):
    """Puts a file there, and returns its serial."""
    at = new_serial(world)
    world.files[at] = File(path, text)
    return at


def file_at(world, path):
    """The serial of the file with this path, or None."""
    for at, file in world.files.items():
        if file.path == path:
            return at
    return None


def thing_at(world, process, handle):
    """The thing to which a handle leads, or None if there is no such handle."""
    if handle not in process.handles:
        return None
    return world.things[process.handles[handle]]


def new_handle(process, serial):
    """Makes the least unused handle lead to this thing, and returns it."""
    handle = 0
    while handle in process.handles:
        handle += 1
    process.handles[handle] = serial
    return handle


def partner(thing):
    """The other end of an end of a pipe, the other side of a side."""
    if thing[0] == "side":
        return ("side", thing[1], 1 - thing[2])
    if thing[0] == "reads":
        return ("writes", thing[1])
    return ("reads", thing[1])


def exists(world, thing):
    """Whether this end or side is held: what is not held is swept away at once."""
    return thing in list(world.things.values())


def letters_from(world, serial):
    """The serials of the things that lie as letters in the row of this thing, if it is a side."""
    thing = world.things[serial]
    if thing[0] != "side":
        return []
    return [letter for letter in world.sides[thing[1:]].letters if isinstance(letter, int)]


def reached(world, serials):
    """The serials of all things that are met from these on, through letters, in the order of first meeting."""
    return walk(serials, lambda at: letters_from(world, at))


def held_things(world):
    """The serials of all things that are held, as the keys of a dict."""
    serials = [at for process in world.processes.values() for at in process.handles.values()]
    return {at: True for at in reached(world, serials)}


def sweep(world):
    """Takes away all that is not held, after something may have been let go."""
    held = held_things(world)
    world.things = {at: thing for at, thing in world.things.items() if at in held}
    things = {thing: True for thing in world.things.values()}
    for at, pipe in world.pipes.items():
        if ("reads", at) not in things:
            pipe.text = ""
    for at, side in world.sides.items():
        if ("side", *at) not in things:
            side.letters = []
    used = {thing[:2]: True for thing in things}
    world.pipes = {at: pipe for at, pipe in world.pipes.items() if ("reads", at) in used or ("writes", at) in used}
    world.sides = {at: side for at, side in world.sides.items() if ("side", at[0]) in used}
    world.areas = {at: cells for at, cells in world.areas.items() if ("area", at) in used}
    world.files = {at: file for at, file in world.files.items() if file.path is not None or ("file", at) in used}
