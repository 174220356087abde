"""The desk: a sheet of lines, each an order, obeyed one after another on one machine."""

from treethaw.bars import bar, helpers
from treethaw.errors import BadLine, Barred, NoProcess, NotRunning, Outside
from treethaw.images import freeze, state
from treethaw.lines import order_in, result_words
from treethaw.machine import Machine
from treethaw.plans import plan, play


class Desk:
    """A machine, and the image that is kept, or None."""

    def __init__(self):
        self.machine = Machine()
        self.image = None


def obey_call(desk, number, call):
    """A process makes a call."""
    try:
        answer, others = desk.machine.do(number, call)
    except NotRunning:
        return "not running"
    return result_words(answer, others)


def obey_freeze(desk, root):
    """Keeps the image of a tree in the place of the elder one, or none if it cannot be frozen."""
    desk.image = None
    try:
        desk.image = freeze(desk.machine, root)
    except NoProcess:
        return "no process"
    except Outside:
        return "outside"
    return f"frozen {len(desk.image[0])}"


def obey_bar(desk):
    """What bars the kept image."""
    if desk.image is None:
        return "no image"
    reason = bar(desk.image)
    return "none" if reason is None else reason[0]


def obey_helpers(desk):
    """How many helpers the kept image needs."""
    if desk.image is None:
        return "no image"
    if bar(desk.image) is not None:
        return "barred"
    return str(sum([len(numbers) for numbers in helpers(desk.image)]))


def obey_thaw(desk):
    """Builds the tree of the kept image on the machine."""
    if desk.image is None:
        return "no image"
    try:
        found = plan(desk.image, desk.machine)
    except Barred as barred:
        return f"barred {barred.reason[0]}"
    desk.machine = play(desk.machine, found)
    return "thawed"


def obey_state(desk):
    """How many processes and things the machine has."""
    whole = state(desk.machine)[0]
    return f"{len(whole[0])} {len(whole[1])}"


ORDERS = {
    "call": obey_call,
    "freeze": obey_freeze,
    "bar": obey_bar,
    "helpers": obey_helpers,
    "thaw": obey_thaw,
    "state": obey_state,
}


def obey(desk, order):
    """Does what an order says, and returns the line that answers it."""
    action = ORDERS[order[0]]
    rest = order[1:]
    return action(desk, *rest)


def answers(text):
    """The answers to all lines of a text, if every line is written as it must be."""
    orders = [order_in(line) for line in text.split("\n")]
    for number, order in enumerate(orders):
        if order is None:
            raise BadLine(number)
    desk = Desk()
    return [obey(desk, order) for order in orders]
