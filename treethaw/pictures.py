"""Pictures of processes: the image of some processes of a world, their things numbered by first meeting."""

from treethaw.families import word_of
from treethaw.walks import first_met, walk
from treethaw.world import children, reached


class Numbering:
    """Which numbers the things, pipes, pairs, areas and files have that these processes reach.

    Each is a dict from serials to numbers; fronts tells for each pair the side that is met first.
    """

    def __init__(self, world, members):
        processes = [world.processes[at] for at in members]
        handles = [process.handles[at] for process in processes for at in sorted(process.handles)]
        self.things = first_met(reached(world, handles))
        met = [world.things[at] for at in self.things]
        self.pipes = first_met([thing[1] for thing in met if thing[0] in ("reads", "writes")])
        self.pairs = first_met([thing[1] for thing in met if thing[0] == "side"])
        self.areas = first_met([thing[1] for thing in met if thing[0] == "area"])
        self.files = first_met([thing[1] for thing in met if thing[0] == "file"])
        self.fronts = {}
        for thing in met:
            if thing[0] == "side" and thing[1] not in self.fronts:
                self.fronts[thing[1]] = thing[2]


def process_row(process, members, numbering):
    """What an image tells of one process; a parent that is not among the members is none."""
    parent = process.parent if process.parent in members else None
    handles = [(at, numbering.things[process.handles[at]]) for at in sorted(process.handles)]
    return (
        process.number, parent, process.session, process.group, process.adopts, word_of(process), process.code,
        process.call, tuple(process.cells), tuple(handles),
    )


def thing_row(thing, numbering):
    """What an image tells of one thing."""
    kind = thing[0]
    at = thing[1]
    if kind == "file":
        return ("file", numbering.files[at], thing[2])
    if kind == "side":
        return ("side", numbering.pairs[at], abs(thing[2] - numbering.fronts[at]))
    if kind == "area":
        return ("area", numbering.areas[at])
    return (kind, numbering.pipes[at])


def pipe_row(pipe):
    """What an image tells of one pipe."""
    return (pipe.text, tuple(pipe.takes), tuple(pipe.puts))


def side_row(side, numbering):
    """What an image tells of one side of a pair."""
    letters = [numbering.things[letter] if isinstance(letter, int) else letter for letter in side.letters]
    return (tuple(letters), tuple(side.takes), tuple(side.puts))


def pair_row(world, at, numbering):
    """What an image tells of a pair, the side that is met first before the other one."""
    front = numbering.fronts[at]
    sides = [world.sides[(at, front)], world.sides[(at, 1 - front)]]
    return tuple([side_row(side, numbering) for side in sides])


def picture(world, members):
    """The image of these processes, an ascending list that shares no thing with other processes."""
    numbering = Numbering(world, members)
    files = [world.files[at] for at in numbering.files]
    return (
        tuple([process_row(world.processes[at], members, numbering) for at in members]),
        tuple([thing_row(world.things[at], numbering) for at in numbering.things]),
        tuple([pipe_row(world.pipes[at]) for at in numbering.pipes]),
        tuple([pair_row(world, at, numbering) for at in numbering.pairs]),
        tuple([tuple(world.areas[at]) for at in numbering.areas]),
        tuple([(file.path, file.text) for file in files]),
    )


def tree_of(world, root):
    """The ascending list of a process and all below it."""
    return sorted(walk([root], lambda number: children(world, number)))


def paths_of(world):
    """The ascending tuple of the pairs (path, text) of all files that have a path."""
    return tuple(sorted([(file.path, file.text) for file in world.files.values() if file.path is not None]))
