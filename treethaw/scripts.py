"""Rows of calls that bring to light all that there is on a machine.

A machine that answers all of them as this one does is in the same state. Every row begins anew on a
machine as it is. Letting processes run and taking letters out loses nothing: whatever is taken away is told
to somebody, and the rows in which calls wait are told before.
"""

from treethaw.families import is_taken
from treethaw.limits import CELLS, MOST, ROOM
from treethaw.world import FIRST, is_alive, partner

ALPHABET = "abcdefghijklmnopqrstuvwxyz"


class Script:
    """Calls that are made on a twin of a machine one after another."""

    def __init__(self, machine):
        self.machine = machine.twin()
        self.world = self.machine.world
        self.calls = []

    def ask(self, number, call):
        """A process makes a call, and is woken if it has to wait."""
        self.calls.append((number, call))
        answer, others = self.machine.do(number, call)
        if answer == ("waits",):
            self.ask(FIRST, ("send", "wake", number))


def rouse(script, number):
    """The first process lets a process run that waits or is stopped."""
    process = script.world.processes[number]
    if process.call is not None:
        script.ask(FIRST, ("send", "wake", number))
    if process.stopped:
        script.ask(FIRST, ("send", "go", number))


def about_row(machine, numbers):
    """Asks about processes."""
    script = Script(machine)
    for number in numbers:
        script.ask(FIRST, ("about", number))
    return script.calls


def own_row(machine, number):
    """Asks a process for its handles and cells."""
    script = Script(machine)
    rouse(script, number)
    script.ask(number, ("handles",))
    for cell in range(CELLS):
        script.ask(number, ("get", cell))
    return script.calls


def child_row(machine, number):
    """Asks the parent of a process whether it is that, and for the code of an ended one."""
    script = Script(machine)
    parent = script.world.processes[number].parent
    rouse(script, parent)
    script.ask(parent, ("wait", number))
    return script.calls


def adopter_row(machine, number):
    """Asks whether a process adopts: the child of an ended child of it is a child of its own then."""
    script = Script(machine)
    free = [at for at in range(1, MOST + 1) if not is_taken(script.world, at)]
    rouse(script, number)
    script.ask(number, ("fork", free[0]))
    script.ask(free[0], ("fork", free[1]))
    script.ask(free[0], ("end", 0))
    script.ask(number, ("wait", free[1]))
    return script.calls


def family_rows(machine, numbers):
    """Rows that ask for all but the things; about these numbers, be they processes or not."""
    world = machine.world
    alive = [at for at in sorted(world.processes) if is_alive(world, at)]
    rows = [about_row(machine, numbers)]
    rows += [own_row(machine, at) for at in alive]
    rows += [child_row(machine, at) for at in sorted(world.processes) if at != FIRST]
    return [*rows, *[adopter_row(machine, at) for at in alive if at != FIRST]]


def seats_of(world):
    """All handles of all processes: triples of a process, a handle and the serial of the thing, ascending."""
    processes = [world.processes[at] for at in sorted(world.processes)]
    return [(one.number, handle, one.handles[handle]) for one in processes for handle in sorted(one.handles)]


def next_letter(world):
    """The first process that can take out a letter, and the call by which it does so, or None."""
    for number, handle, serial in seats_of(world):
        thing = world.things[serial]
        letters = world.sides[thing[1:]].letters if thing[0] == "side" else []
        if letters:
            return (number, ("read", handle, 1) if isinstance(letters[0], str) else ("take", handle))
    return None


def take_letters(script):
    """All letters are taken out, until handles lead to all things."""
    found = next_letter(script.world)
    while found is not None:
        number, call = found
        script.ask(number, call)
        found = next_letter(script.world)


def ask_same(script, first):
    """Asks which handles lead to the same thing; first tells one for each thing."""
    things = script.world.things
    for number, handle, serial in seats_of(script.world):
        script.ask(number, ("same", handle, *first[serial]))
    for one, (number, handle) in first.items():
        for other, seat in first.items():
            if one < other and things[one][0] == things[other][0]:
                script.ask(number, ("same", handle, *seat))


def ask_opening(script, number, handle, size):
    """Asks for the place of an opening, and for the text of its file, which is of this size."""
    script.ask(number, ("seek", handle, size + 1))
    script.ask(number, ("read", handle, size + 1))
    script.ask(number, ("seek", handle, 0))
    script.ask(number, ("read", handle, size + 1))


def ask_thing(script, thing, number, handle):
    """Asks for what is in a thing, with calls that a thing of another kind answers otherwise."""
    if thing[0] == "area":
        for cell in range(CELLS):
            script.ask(number, ("peek", handle, cell))
    elif thing[0] == "file":
        ask_opening(script, number, handle, len(script.world.files[thing[1]].text))
    elif thing[0] == "side":
        script.ask(number, ("take", handle))
    elif thing[0] == "reads":
        script.ask(number, ("write", handle, "a"))
        script.ask(number, ("read", handle, ROOM))
    else:
        script.ask(number, ("read", handle, 1))
        script.ask(number, ("write", handle, "a" * (ROOM + 1)))


def ask_partners(script, first):
    """Asks which end of a pipe, or side of a pair, belongs to which other one, all of them being empty."""
    things = script.world.things
    seats = {things[serial]: first[serial] for serial in first}
    for thing, (number, handle) in seats.items():
        if thing[0] in ("writes", "side"):
            script.ask(number, ("write", handle, "a"))
            if partner(thing) in seats:
                reader, end = seats[partner(thing)]
                script.ask(reader, ("read", end, 1))


def new_marks(world):
    """Texts of two letters with which no file begins."""
    texts = [file.text for file in world.files.values()]
    marks = [one + other for one in ALPHABET for other in ALPHABET]
    return [mark for mark in marks if not any([text.startswith(mark) for text in texts])]


def ask_files(script, first):
    """Asks which openings are of the same file, by a mark of its own in every file."""
    things = script.world.things
    openings = [serial for serial in first if things[serial][0] == "file"]
    marks = new_marks(script.world)
    marked = {}
    for serial in openings:
        file = things[serial][1]
        if file not in marked:
            number, handle = first[serial]
            marked[file] = marks[len(marked)]
            script.ask(number, ("seek", handle, 0))
            script.ask(number, ("write", handle, marked[file]))
    for serial in openings:
        number, handle = first[serial]
        script.ask(number, ("seek", handle, 0))
        script.ask(number, ("read", handle, len(marks[0])))


def thing_row(machine, paths):
    """A row that asks for all things, and for the files with these paths, be they there or not."""
    script = Script(machine)
    world = script.world
    for number in sorted(world.processes):
        rouse(script, number)
    for path in paths:
        script.ask(FIRST, ("open", path))
    take_letters(script)
    first = {}
    for number, handle, serial in seats_of(world):
        first.setdefault(serial, (number, handle))
    ask_same(script, first)
    for serial, (number, handle) in first.items():
        ask_thing(script, world.things[serial], number, handle)
    ask_partners(script, first)
    ask_files(script, first)
    return script.calls
