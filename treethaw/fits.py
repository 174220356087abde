"""Whether the parts of what has the form of an image fit together: families, things, numbers, rows."""

from treethaw.forms import is_ascending
from treethaw.limits import LETTERS, ROOM
from treethaw.walks import first_met, walk


def leads_up(parents, number):
    """Whether the parents lead from this process to the root."""
    at = number
    for turn in range(len(parents)):
        if parents[at] is None:
            return True
        at = parents[at]
    return False


def families_fit(image):
    """Whether the processes are one tree, below a root that has not ended."""
    processes = image[0]
    parents = {process[0]: process[1] for process in processes}
    alive = [process[0] for process in processes if process[5] != "ended"]
    roots = [process[0] for process in processes if process[1] is None]
    if len(roots) != 1 or roots[0] not in alive or not is_ascending([process[0] for process in processes]):
        return False
    if any([parent not in alive for parent in parents.values() if parent is not None]):
        return False
    return all([leads_up(parents, number) for number in parents])


def things_fit(image):
    """Whether each thing and each path stands once, and only what is held contains something."""
    processes, things, pipes, pairs, areas, files = image
    if any([thing[0] != "file" and things.count(thing) > 1 for thing in things]):
        return False
    paths = [path for path, text in files if path is not None]
    if len(set(paths)) < len(paths):
        return False
    if any([pipe[0] != "" and ("reads", at) not in things for at, pipe in enumerate(pipes)]):
        return False
    sides = [(at, turn) for at in range(len(pairs)) for turn in (0, 1)]
    return all([pairs[at][turn][0] == () or ("side", at, turn) in things for at, turn in sides])


def letters_behind(image, at):
    """The indices of the things that lie as letters in the row of a thing, if it is a side."""
    thing = image[1][at]
    if thing[0] != "side":
        return []
    return [letter for letter in image[3][thing[1]][thing[2]][0] if not isinstance(letter, str)]


def are_counted(found, many):
    """Whether these are all numbers below many, each met first in its turn."""
    return list(first_met(found)) == list(range(many))


def numbering_fits(image):
    """Whether everything is numbered by first meeting, and nothing is there that is not met."""
    processes, things, pipes, pairs, areas, files = image
    handles = [at for process in processes for handle, at in process[9]]
    if not are_counted(walk(handles, lambda at: letters_behind(image, at)), len(things)):
        return False
    sides = [thing for thing in things if thing[0] == "side"]
    for at, side in enumerate(sides):
        if side[2] == 1 and ("side", side[1], 0) not in sides[:at]:
            return False
    return (
        are_counted([thing[1] for thing in things if thing[0] in ("reads", "writes")], len(pipes))
        and are_counted([thing[1] for thing in sides], len(pairs))
        and are_counted([thing[1] for thing in things if thing[0] == "area"], len(areas))
        and are_counted([thing[1] for thing in things if thing[0] == "file"], len(files))
    )


def waiting_row(image, process):
    """The row in which the waiting call of a process stands, or None if such a call never waits.

    A row is a tuple ("takes" or "puts", thing), the thing being the one through which the call goes.
    """
    call = process[7]
    handles = dict(process[9])
    if call[0] not in ("read", "take", "write", "pass") or call[1] not in handles:
        return None
    thing = image[1][handles[call[1]]]
    if call[0] == "read" and thing[0] in ("reads", "side") or call[0] == "take" and thing[0] == "side":
        return ("takes", thing)
    if call[0] == "write" and thing[0] in ("writes", "side") and len(call[2]) <= ROOM:
        return ("puts", thing)
    if call[0] == "pass" and thing[0] == "side" and call[2] in handles:
        return ("puts", thing)
    return None


def told_rows(image):
    """The rows of which the image tells, each with its thing, in the form of waiting_row."""
    rows = {}
    for at, pipe in enumerate(image[2]):
        rows[("takes", ("reads", at))] = pipe[1]
        rows[("puts", ("writes", at))] = pipe[2]
    for at, pair in enumerate(image[3]):
        for turn, side in enumerate(pair):
            rows[("takes", ("side", at, turn))] = side[1]
            rows[("puts", ("side", at, turn))] = side[2]
    return rows


def wait_fits(image, process):
    """Whether a wait for a child has to wait, or could have to before its process was stopped."""
    who = process[7][1]
    below = [other for other in image[0] if other[1] == process[0] and who in (0, other[0])]
    if process[5] == "stopped":
        return len(below) > 0
    return len(below) > 0 and all([other[5] != "ended" for other in below])


def row_stands(image, row, call):
    """Whether this call cannot be answered now, though it is the first one of its row that is not stopped."""
    processes, things, pipes, pairs, areas, files = image
    turn, thing = row
    if thing[0] == "reads":
        return pipes[thing[1]][0] == "" and ("writes", thing[1]) in things
    if thing[0] == "writes":
        return ("reads", thing[1]) in things and len(pipes[thing[1]][0]) + len(call[2]) > ROOM
    other = ("side", thing[1], 1 - thing[2])
    if turn == "takes":
        return pairs[thing[1]][thing[2]][0] == () and other in things
    return other in things and len(pairs[thing[1]][other[2]][0]) == LETTERS


def rows_fit(image):
    """Whether each waiting call stands in its row and nothing else does, and no row could go on now."""
    waiting = {process[0]: process for process in image[0] if process[7] is not None}
    rows = told_rows(image)
    members = {row: [] for row in rows}
    for process in waiting.values():
        if process[7][0] == "wait":
            if not wait_fits(image, process):
                return False
            continue
        row = waiting_row(image, process)
        if row is None:
            return False
        members[row].append(process[0])
    for row, numbers in rows.items():
        if sorted(numbers) != members[row]:
            return False
        heads = [number for number in numbers if waiting[number][5] != "stopped"]
        if heads and not row_stands(image, row, waiting[heads[0]][7]):
            return False
    return True
