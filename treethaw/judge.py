"""Whether a plan builds the tree of an image and does nothing else, found out by playing it."""

from treethaw.bars import helpers
from treethaw.errors import NoProcess, NotRunning, Outside
from treethaw.images import freeze
from treethaw.machine import is_step
from treethaw.pictures import paths_of, picture, tree_of
from treethaw.plans import helpers_of, is_order, order_of
from treethaw.shapes import is_number, tupled
from treethaw.world import FIRST


def is_pair_of_numbers(value):
    """Whether a value is a tuple of two numbers."""
    return isinstance(value, tuple) and len(value) == 2 and is_number(value[0]) and is_number(value[1])


def is_plan(value):
    """Whether any value has the form of a plan."""
    if not isinstance(value, tuple) or len(value) != 2:
        return False
    steps, pairs = value
    if not isinstance(steps, tuple) or not all([is_step(step) for step in steps]):
        return False
    if not isinstance(pairs, tuple) or not all([is_pair_of_numbers(pair) for pair in pairs]):
        return False
    indices = [at for pair in pairs for at in pair]
    return all([0 <= at < len(steps) for at in indices]) and all([a < b for a, b in zip(pairs, pairs[1:])])


def is_made(machine, number, call):
    """Makes a step, and tells whether it could be made, was not refused, and answered nobody else."""
    try:
        answer, others = machine.do(number, call)
    except NotRunning:
        return False
    return answer[0] != "refused" and not others


def are_made(machine, steps):
    """Makes steps, and tells whether all could be made by the first process or one that was forked in them."""
    known = [FIRST]
    for number, call in steps:
        if number not in known or not is_made(machine, number, call):
            return False
        if call[0] == "fork":
            known.append(call[1])
    return True


def is_tree(machine, root, image):
    """Whether the tree of this process has this image."""
    try:
        return freeze(machine, root) == image
    except (NoProcess, Outside):
        return False


def rest_is_same(before, after, root):
    """Whether two machines are equal but for the tree of this process on the second one."""
    tree = tree_of(after, root)
    rest = [at for at in sorted(after.processes) if at not in tree]
    if paths_of(before) != paths_of(after):
        return False
    return picture(before, sorted(before.processes)) == picture(after, rest)


def shows_plan(image, machine, thing, order=None):
    """Whether any value is a plan that, played in this order, builds the tree with the fewest helpers."""
    told = tupled(image)
    if not is_plan(thing):
        return False
    turns = order_of(thing, order)
    if not is_order(thing, turns):
        return False
    twin = machine.twin()
    root = [row[0] for row in told[0] if row[1] is None][0]
    if not are_made(twin, [thing[0][at] for at in turns]) or not is_tree(twin, root, told):
        return False
    if not rest_is_same(machine.world, twin.world, root):
        return False
    return helpers_of(told, thing) == sum([len(numbers) for numbers in helpers(told)])
