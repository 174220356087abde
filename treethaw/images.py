"""Images of trees and states of machines."""

from treethaw.errors import NoProcess, Outside
from treethaw.fits import families_fit, numbering_fits, rows_fit, things_fit
from treethaw.forms import has_form
from treethaw.pictures import paths_of, picture, tree_of
from treethaw.world import FIRST, is_alive, reached


def least_shared(mine, theirs):
    """The least number but for 1 that stands in both lists, or None."""
    return min([number for number in mine if number in theirs and number != 1], default=None)


def marks(world, serials):
    """What these things, and those in letters behind them, are shared by, as the keys of a dict."""
    found = {}
    for serial in reached(world, serials):
        found[("thing", serial)] = True
        thing = world.things[serial]
        if thing[0] in ("reads", "writes", "side") or thing[0] == "file" and world.files[thing[1]].path is None:
            found[("point", thing[1])] = True
    return found


def shared_handle(world, mine, others):
    """The first handle of these processes through which they share a thing with the others, or None."""
    theirs = marks(world, [at for process in others for at in process.handles.values()])
    for process in mine:
        for handle in sorted(process.handles):
            if any([mark in theirs for mark in marks(world, [process.handles[handle]])]):
                return ("thing", process.number, handle)
    return None


def shared(world, members):
    """The first thing that these processes share with the others, or None."""
    mine = [world.processes[at] for at in members]
    others = [process for process in world.processes.values() if process.number not in members]
    session = least_shared([process.session for process in mine], [process.session for process in others])
    if session is not None:
        return ("session", session)
    group = least_shared([process.group for process in mine], [process.group for process in others])
    if group is not None:
        return ("group", group)
    return shared_handle(world, mine, others)


def freeze(machine, root):
    """The image of the tree of this process."""
    world = machine.world
    if root == FIRST or not is_alive(world, root):
        raise NoProcess(root)
    members = tree_of(world, root)
    what = shared(world, members)
    if what is not None:
        raise Outside(what)
    return picture(world, members)


def state(machine):
    """The image of the whole machine, and all files that have a path."""
    world = machine.world
    return (picture(world, sorted(world.processes)), paths_of(world))


def is_image(thing):
    """Whether any value is an image of a tree below the first process."""
    return has_form(thing) and families_fit(thing) and things_fit(thing) and numbering_fits(thing) and rows_fit(thing)
