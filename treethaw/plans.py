"""Plans: rows of plain calls that build the tree of an image, and how they are played."""

from treethaw.bars import bar
from treethaw.births import Nursery, bear_all
from treethaw.drafts import Draft
from treethaw.errors import BadStep, Barred, NoOrder, NotRunning
from treethaw.finish import Work, finish_all
from treethaw.kin import Kin, has_ended
from treethaw.limits import MOST
from treethaw.pictures import paths_of
from treethaw.shapes import is_number, tupled
from treethaw.stock import Stock, let_go, make_things, settle_in
from treethaw.world import FIRST


def numbers_in(rows):
    """All numbers of these (number, session, group), ascending."""
    return sorted(set([number for row in rows for number in row]))


def numbers_used(world):
    """All numbers, sessions and groups of a machine."""
    return numbers_in([(at.number, at.session, at.group) for at in world.processes.values()])


def numbers_wanted(image):
    """All numbers, sessions and groups of an image, but for 1."""
    return [number for number in numbers_in([(row[0], row[2], row[3]) for row in image[0]]) if number != 1]


def what_bars(image, world):
    """The first reason why the image cannot be built on this machine, or None."""
    reason = bar(image)
    if reason is not None:
        return reason
    used = numbers_used(world)
    for number in numbers_wanted(image):
        if number in used:
            return ("number", number)
    files = paths_of(world)
    for path, text in image[5]:
        if path is not None and (path, text) not in files:
            return ("path", path)
    return None


def plan(image, machine):
    """A plan that builds the tree of the image below the first process of the machine."""
    world = machine.world
    told = tupled(image)
    reason = what_bars(told, world)
    if reason is not None:
        raise Barred(reason)
    first = world.processes[FIRST]
    kin = Kin(told)
    draft = Draft()
    stock = Stock(told, sorted(first.handles), [path for path, text in paths_of(world)])
    taken = [*numbers_used(world), *numbers_wanted(told)]
    nursery = Nursery(kin, draft, stock.spare, [at for at in range(2, MOST + 1) if at not in taken])
    make_things(draft, stock)
    bear_all(nursery)
    for row in told[0]:
        if not has_ended(kin, row[0]):
            settle_in(draft, stock, row, first.cells)
    finish_all(Work(kin, stock, draft, nursery.bearers))
    let_go(draft, stock)
    return (tuple(draft.steps), tuple(sorted(draft.links)))


def is_order(plan, thing):
    """Whether any value is an order of the plan."""
    steps, pairs = plan
    if not isinstance(thing, list) or not all([is_number(at) for at in thing]):
        return False
    if sorted(thing) != list(range(len(steps))):
        return False
    turns = {at: turn for turn, at in enumerate(thing)}
    last = {}
    for at, (number, call) in enumerate(steps):
        if number in last and turns[last[number]] > turns[at]:
            return False
        last[number] = at
    return all([turns[early] < turns[late] for early, late in pairs])


def order_of(plan, order):
    """The order to play, a list if it is an order: this one, or the ascending one for None."""
    if order is None:
        return list(range(len(plan[0])))
    return list(order) if isinstance(order, tuple) else order


def play(machine, plan, order=None):
    """A twin of the machine on which the steps of the plan were made in this order."""
    turns = order_of(plan, order)
    if not is_order(plan, turns):
        raise NoOrder()
    twin = machine.twin()
    for at in turns:
        number, call = plan[0][at]
        try:
            answer, others = twin.do(number, call)
        except NotRunning:
            raise BadStep(at) from None
        if answer[0] == "refused":
            raise BadStep(at)
    return twin


def helpers_of(image, plan):
    """How many processes a plan forks beyond those of the image."""
    return len([call for number, call in plan[0] if call[0] == "fork"]) - len(image[0])
