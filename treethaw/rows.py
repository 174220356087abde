"""Calls that may have to wait: their rows, and who is answered when."""

from treethaw.limits import LETTERS, ROOM
from treethaw.world import FIRST, children, exists, new_handle, partner, thing_at


def row_of(world, process, call):
    """The row in which this call of the process waits; a wait for a child has none that is kept."""
    if call[0] == "wait":
        return []
    thing = thing_at(world, process, call[1])
    point = world.sides[thing[1:]] if thing[0] == "side" else world.pipes[thing[1]]
    return point.takes if call[0] in ("read", "take") else point.puts


def place_in_row(world, process):
    """How many stand before the waiting call of this process, stopped ones too."""
    if process.call[0] == "wait":
        return 0
    return row_of(world, process, process.call).index(process.number)


def leave_row(world, process):
    """The process waits no more, if it did."""
    if process.call is not None:
        row = row_of(world, process, process.call)
        if process.number in row:
            row.remove(process.number)
        process.call = None


def next_in_row(world, row):
    """The number of the first process of the row that is not stopped, or None."""
    for number in row:
        if not world.processes[number].stopped:
            return number
    return None


def wait_now(world, process, who):
    """Answers a wait for a child, or returns None if it has to wait."""
    ended = [at for at in children(world, process.number) if world.processes[at].code is not None and who in (0, at)]
    if not ended:
        return None
    code = world.processes[ended[0]].code
    del world.processes[ended[0]]
    return ("told", (ended[0], code))


def read_pipe(world, thing, many):
    """Answers a read of a pipe, or returns None if it has to wait."""
    pipe = world.pipes[thing[1]]
    if pipe.text == "" and exists(world, partner(thing)):
        return None
    text = pipe.text[:many]
    pipe.text = pipe.text[many:]
    return ("told", text)


def write_pipe(world, thing, text):
    """Answers a write to a pipe, or returns None if it has to wait."""
    if not exists(world, partner(thing)):
        return ("refused", "alone")
    pipe = world.pipes[thing[1]]
    if len(pipe.text) + len(text) > ROOM:
        return None
    pipe.text += text
    return ("told", len(text))


def take_letter(world, process, thing, name):
    """Answers a read or take through a side, or returns None if it has to wait."""
    letters = world.sides[thing[1:]].letters
    if not letters:
        if exists(world, partner(thing)):
            return None
        return ("told", "" if name == "read" else None)
    is_text = isinstance(letters[0], str)
    if is_text != (name == "read"):
        return ("refused", "letter")
    letter = letters.pop(0)
    return ("told", letter if is_text else new_handle(process, letter))


def put_letter(world, process, thing, call):
    """Answers a write or pass through a side, or returns None if it has to wait."""
    other = partner(thing)
    if not exists(world, other):
        return ("refused", "alone")
    letters = world.sides[other[1:]].letters
    if len(letters) >= LETTERS:
        return None
    if call[0] == "write":
        letters.append(call[2])
        return ("told", len(call[2]))
    letters.append(process.handles[call[2]])
    return ("told", None)


def answer_now(world, process, call):
    """Answers a call that may have to wait, or returns None if it has to."""
    if call[0] == "wait":
        return wait_now(world, process, call[1])
    thing = thing_at(world, process, call[1])
    if thing[0] == "reads":
        return read_pipe(world, thing, call[2])
    if thing[0] == "writes":
        return write_pipe(world, thing, call[2])
    if call[0] in ("read", "take"):
        return take_letter(world, process, thing, call[0])
    return put_letter(world, process, thing, call)


def begin(world, process, call):
    """Makes a call that may have to wait, when nothing else refuses it."""
    row = row_of(world, process, call)
    if next_in_row(world, row) is None:
        answer = answer_now(world, process, call)
        if answer is not None:
            return answer
    if process.number == FIRST:
        return ("refused", "first")
    process.call = call
    row.append(process.number)
    return ("waits",)


def next_in_rows(world):
    """The processes whose turn it is, those that take out before those that put in."""
    points = list(world.pipes.values()) + list(world.sides.values())
    rows = [point.takes for point in points] + [point.puts for point in points]
    for process in world.processes.values():
        if process.call is not None and process.call[0] == "wait":
            rows.append([process.number])
    found = [next_in_row(world, row) for row in rows]
    return [number for number in found if number is not None]


def settle_one(world):
    """Answers one waiting call, if one can be answered; returns whether it did."""
    for number in next_in_rows(world):
        process = world.processes[number]
        answer = answer_now(world, process, process.call)
        if answer is not None:
            leave_row(world, process)
            world.answered[number] = answer
            return True
    return False


def settle(world):
    """Answers waiting calls as long as one can be answered."""
    # Each answer may let a call take out of what was put in, and these go first.
    while settle_one(world):
        pass
