"""Machines: processes that make calls, one call after another."""

from treethaw.errors import NotRunning
from treethaw.families import FAMILY_CALLS
from treethaw.rows import settle
from treethaw.shapes import ARGUMENTS, fits, is_number
from treethaw.things import THING_CALLS
from treethaw.world import World, new_file


def is_call(thing):
    """Whether any value is a call as processes make them."""
    if not isinstance(thing, tuple) or len(thing) == 0:
        return False
    if not isinstance(thing[0], str) or thing[0] not in ARGUMENTS:
        return False
    shapes = ARGUMENTS[thing[0]]
    if len(thing) != len(shapes) + 1:
        return False
    return all([fits(shape, value) for shape, value in zip(shapes, thing[1:])])


def is_step(thing):
    """Whether any value is a pair of a number and a call."""
    return isinstance(thing, tuple) and len(thing) == 2 and is_number(thing[0]) and is_call(thing[1])


def perform(world, caller, call):
    """Does what a call says, and returns the answer to its caller."""
    name = call[0]
    rest = call[1:]
    if name in FAMILY_CALLS:
        family_call = FAMILY_CALLS[name]
        return family_call(world, caller, *rest)
    thing_call = THING_CALLS[name]
    return thing_call(world, caller, *rest)


class Machine:
    """A machine with the first process alone, and with files."""

    def __init__(self, files=()):
        self.world = World()
        for path, text in files:
            new_file(self.world, path, text)

    def do(self, number, call):
        """A process makes a call: the answer, and the answers that others got by it."""
        world = self.world
        if number not in world.processes or not world.processes[number].runs():
            raise NotRunning(number)
        answer = perform(world, world.processes[number], tuple(call))
        settle(world)
        others = [(at, world.answered[at]) for at in sorted(world.answered)]
        world.answered = {}
        return (answer, others)

    def numbers(self):
        """The ascending list of all processes, ended ones included."""
        return sorted(self.world.processes)

    def twin(self):
        """A machine in the same state that shares nothing with this one."""
        other = Machine()
        other.world = self.world.twin()
        return other
