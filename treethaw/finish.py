"""How a tree that was born gets its texts, letters, waiting calls and ends, and is stopped."""

from treethaw.drafts import HELD
from treethaw.kin import all_above, below, has_ended, other_tops
from treethaw.limits import LETTERS, ROOM
from treethaw.world import FIRST


class Work:
    """A tree that is finished: its families, its things, and who of its processes bears tops."""

    def __init__(self, kin, stock, draft, bearers):
        self.kin = kin
        self.stock = stock
        self.draft = draft
        self.bearers = bearers


def stop(work, number, marks):
    """The first process stops a process."""
    work.draft.step(FIRST, ("send", "stop", number), owns=[("process", number), *marks])


def wait_in_row(work, row, mark):
    """These processes make their calls, which wait, and are stopped behind that if they must be."""
    for number in row:
        work.draft.step(number, work.kin.rows[number][7], owns=[mark], uses=[HELD])
    for number in row:
        if work.kin.rows[number][5] == "stopped":
            stop(work, number, [mark])


def finish_pipe(work, at):
    """A pipe gets its text and its rows.

    Reads wait while the pipe is empty, writes while it is full; where the text is neither, those
    that have waited before are all stopped, and do not see how it changes.
    """
    text, reads, writes = work.stock.image[2][at]
    mark = ("pipe", at)
    filler = "x" * (ROOM - len(text)) if writes else ""
    if text != "":
        wait_in_row(work, reads, mark)
    if filler + text != "":
        work.draft.step(FIRST, ("write", work.stock.spots[("writes", at)], filler + text), owns=[mark])
    wait_in_row(work, writes, mark)
    if filler != "":
        work.draft.step(FIRST, ("read", work.stock.spots[("reads", at)], len(filler)), owns=[mark])
    if text == "":
        wait_in_row(work, reads, mark)


def send_letter(work, handle, letter, mark):
    """The first process sends a letter."""
    call = ("write", handle, letter) if isinstance(letter, str) else ("pass", handle, work.stock.base + letter)
    work.draft.step(FIRST, call, owns=[mark])


def finish_side(work, at, turn):
    """A side of a pair gets its letters, and both rows of calls that wait for these, as a pipe does."""
    pair = work.stock.image[3][at]
    letters = pair[turn][0]
    takes = pair[turn][1]
    puts = pair[1 - turn][2]
    mark = ("letters", at, turn)
    fillers = ["x"] * (LETTERS - len(letters)) if puts else []
    if letters:
        wait_in_row(work, takes, mark)
    for letter in [*fillers, *letters]:
        send_letter(work, work.stock.spots[("side", at, 1 - turn)], letter, mark)
    wait_in_row(work, puts, mark)
    for filler in fillers:
        work.draft.step(FIRST, ("read", work.stock.spots[("side", at, turn)], 1), owns=[mark])
    if not letters:
        wait_in_row(work, takes, mark)


def finish_rows(work):
    """All pipes and pairs get what is in them, and all who wait there."""
    for at in range(len(work.stock.image[2])):
        finish_pipe(work, at)
    for at in range(len(work.stock.image[3])):
        finish_side(work, at, 0)
        finish_side(work, at, 1)


def end(work, number, marks):
    """A process of the image ends; tops that it has borne are adopted then."""
    born = [at for session in work.bearers if work.bearers[session] == number for at in other_tops(work.kin, session)]
    owns = [("process", number), *[("parent", at) for at in born]]
    work.draft.step(number, ("end", work.kin.rows[number][6]), owns=owns, uses=[HELD, *marks])


def finish_children(work, number):
    """A process waits for its children if it must, and those that have ended end."""
    row = work.kin.rows[number]
    ended = [at for at in below(work.kin, number) if has_ended(work.kin, at)]
    waits = row[7] is not None and row[7][0] == "wait"
    # One that waits for an ended child is stopped, and must be so before this child ends.
    late = [at for at in ended if waits and row[7][1] in (0, at)]
    for at in ended:
        if at not in late:
            end(work, at, [])
    if waits:
        work.draft.step(number, row[7], uses=[("parent", row[7][1])])
        if row[5] == "stopped":
            stop(work, number, [("waits", number)])
        for at in late:
            end(work, at, [("waits", number)])


def finish_families(work):
    """All waits for children are made, and all ends; lower ones first, since an end may bring a child to wait for."""
    kin = work.kin
    for number in sorted(kin.members, key=lambda at: -len(all_above(kin, at))):
        finish_children(work, number)


def finish_all(work):
    """Everything that comes behind births, cells and handles."""
    finish_rows(work)
    finish_families(work)
    for row in work.kin.rows.values():
        if row[5] == "stopped" and row[7] is None:
            stop(work, row[0], [])
