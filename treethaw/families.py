"""The calls about families: forks, sessions, groups, ends, waits and signals."""

from treethaw.limits import MOST
from treethaw.rows import begin, leave_row, place_in_row, settle
from treethaw.world import FIRST, Process, children, is_alive, sweep


def is_taken(world, number):
    """Whether this is the number, the session or the group of a process."""
    return any([number in (at.number, at.session, at.group) for at in world.processes.values()])


def do_fork(world, caller, new):
    """A child of the caller that is like it."""
    if new > MOST or is_taken(world, new):
        return ("refused", "taken")
    child = Process(new, caller.number, caller.session, caller.group)
    child.cells = list(caller.cells)
    child.handles = dict(caller.handles)
    world.processes[new] = child
    return ("told", new)


def do_lead(world, caller):
    """The caller begins a session and a group of its own."""
    if children(world, caller.number):
        return ("refused", "children")
    if any([at.group == caller.number for at in world.processes.values()]):
        return ("refused", "group")
    caller.session = caller.number
    caller.group = caller.number
    return ("told", None)


def do_adopt(world, caller):
    """The caller adopts from now on."""
    if children(world, caller.number):
        return ("refused", "children")
    caller.adopts = True
    return ("told", None)


def may_move(world, caller, who):
    """Whether the caller can put this process into a group, as far as families go."""
    if who != caller.number and (who not in children(world, caller.number) or not is_alive(world, who)):
        return False
    return world.processes[who].session == caller.session


def do_join(world, caller, who, group):
    """Puts the caller, or a child of it, into a group of the session."""
    if not may_move(world, caller, who):
        return ("refused", "no child")
    target = world.processes[who]
    if target.session == who:
        return ("refused", "leads")
    peers = [at for at in world.processes.values() if at.session == caller.session]
    if not any([group in (at.number, at.group) for at in peers]):
        return ("refused", "no group")
    target.group = group
    return ("told", None)


def adopter_above(world, process):
    """The number of the nearest process above this one that adopts; an ended one adopts no more."""
    above = world.processes[process.parent]
    while not above.adopts:
        above = world.processes[above.parent]
    return above.number


def end_process(world, process, code):
    """Ends a process, whatever it does at present."""
    leave_row(world, process)
    heir = adopter_above(world, process)
    for number in children(world, process.number):
        child = world.processes[number]
        child.parent = heir
    process.code = code
    process.adopts = False
    process.stopped = False
    process.cells = []
    process.handles = {}
    sweep(world)


def do_end(world, caller, code):
    """The caller ends."""
    if caller.number == FIRST:
        return ("refused", "first")
    end_process(world, caller, code)
    return ("told", None)


def do_wait(world, caller, who):
    """Waits for a child that has ended, 0 for any."""
    below = children(world, caller.number)
    if not below or who not in (0, *below):
        return ("refused", "no child")
    return begin(world, caller, ("wait", who))


def deliver(world, process, kind):
    """Does to one process what is sent to it."""
    if kind == "stop":
        process.stopped = True
    elif kind == "go":
        process.stopped = False
    elif kind == "end":
        end_process(world, process, -1)
    elif process.call is not None:
        leave_row(world, process)
        world.answered[process.number] = ("woken",)


def do_send(world, caller, kind, who):
    """Sends to one process, perhaps to the caller."""
    if not is_alive(world, who):
        return ("refused", "no process")
    if who == FIRST:
        return ("refused", "first")
    deliver(world, world.processes[who], kind)
    return ("told", None)


def do_sendall(world, caller, kind, group):
    """Sends to every process of a group but the first one."""
    members = [at for at in sorted(world.processes) if world.processes[at].group == group]
    members = [at for at in members if at != FIRST and is_alive(world, at)]
    if not members:
        return ("refused", "no group")
    for number in members:
        deliver(world, world.processes[number], kind)
        settle(world)
    return ("told", len(members))


def word_of(process):
    """What a process does at present, in one word."""
    if process.code is not None:
        return "ended"
    if process.stopped:
        return "stopped"
    return "runs" if process.call is None else "waits"


def do_about(world, caller, who):
    """What can be told about a process."""
    if who not in world.processes:
        return ("refused", "no process")
    process = world.processes[who]
    place = None if process.call is None else place_in_row(world, process)
    return ("told", (process.session, process.group, word_of(process), place, process.call))


FAMILY_CALLS = {
    "fork": do_fork,
    "lead": do_lead,
    "adopt": do_adopt,
    "join": do_join,
    "end": do_end,
    "wait": do_wait,
    "send": do_send,
    "sendall": do_sendall,
    "about": do_about,
}
