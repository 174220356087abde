"""What tests of plans share: a second judge over plans, and machines on which to thaw."""

from tests.drawing import orders
from tests.helper import Case
from treethaw.bars import helpers
from treethaw.errors import NoProcess, NotRunning, Outside
from treethaw.images import freeze, state
from treethaw.machine import Machine, is_call
from treethaw.plans import is_order, plan


def root_of(image):
    return next(row[0] for row in image[0] if row[1] is None)


def buried(machine, numbers):
    """A twin on which the first process has ended these and waited for all that they left, by plain calls."""
    twin = machine.twin()
    for number in numbers:
        twin.do(1, ("send", "end", number))
    for number in numbers:
        twin.do(1, ("wait", number))
    return twin


def fault(image, machine, plan, order=None):
    """What is wrong with a plan that is played in this order, or None."""
    steps = plan[0]
    twin, born, forks = machine.twin(), {1}, 0
    for at in range(len(steps)) if order is None else order:
        number, call = steps[at]
        if number not in born:
            return f"step {at} is made by a stranger"
        try:
            answer, others = twin.do(number, call)
        except NotRunning:
            return f"step {at} cannot be made"
        if answer[0] not in ("told", "waits") or others:
            return f"step {at}: {answer}, {others}"
        if call[0] == "fork":
            born.add(call[1])
            forks += 1
    try:
        if freeze(twin, root_of(image)) != image:
            return "another image"
    except (NoProcess, Outside) as error:
        return repr(error)
    if state(buried(twin, [row[0] for row in image[0]])) != state(machine):
        return "not all else is as before"
    if forks - len(image[0]) != sum(map(len, helpers(image))):
        return "other helpers"
    return None


class ThawCase(Case):
    def thaws(self, image, machine, random=None, many=2):
        """Plans the image on the machine, and plays the plan in many orders; returns the plan."""
        before = repr(state(machine))
        found = plan(image, machine)
        self.has_form(found)
        self.assertEqual(repr(plan(image, machine)), repr(found))
        self.assertIs(is_order(found, list(range(len(found[0])))), True)
        self.assertIsNone(fault(image, machine, found))
        for order in orders(random, found, many) if random else []:
            self.assertIs(is_order(found, order), True)
            self.assertIsNone(fault(image, machine, found, order), (image, order))
        self.assertEqual(repr(state(machine)), before)
        return found

    def has_form(self, found):
        steps, pairs = found
        self.assertEqual((type(found), type(steps), type(pairs)), (tuple, tuple, tuple))
        for step in steps:
            self.assertEqual((type(step), len(step), type(step[0])), (tuple, 2, int))
            self.assertTrue(is_call(step[1]), step)
        for pair in pairs:
            self.assertEqual((type(pair), [type(at) for at in pair]), (tuple, [int, int]))
            self.assertTrue(0 <= pair[0] < pair[1] < len(steps))
        self.assertEqual(list(pairs), sorted(set(pairs)))


def crowded(random, taken, files=()):
    """A machine with processes, things and files of its own, that uses none of these numbers."""
    free = [at for at in range(2, 200) if at not in taken]
    a, b, c, d, e = random.sample(free, 5)
    m = Machine([*files, ("zz", "more")])
    for path in ("a", "aa", "hidden"):
        if random.random() < 0.5:
            m.do(1, ("make", path, "text of " + path))
    calls = [
        (1, ("set", random.randrange(4), random.choice([1, -7]))), (1, ("pipe",)), (1, ("pair",)), (1, ("open", "zz")),
        (1, ("fork", a)), (a, ("lead",)), (a, ("area",)), (1, ("fork", b)), (1, ("fork", c)), (1, ("fork", d)),
        (c, ("end", 3)), (b, ("read", 0, 2)), (d, ("take", 2)), (1, ("send", "stop", d)), (1, ("write", 3, "w")),
        (1, ("pass", 3, 4)), (1, ("pass", 2, 2)), (a, ("fork", e)), (1, ("remove", "zz")), (e, ("join", e, e)),
        (1, ("copy", 1, random.choice([0, 7, 10 ** 12]))), (1, ("close", random.randrange(5))), (a, ("wait", e)),
        (1, ("set", 0, 9))]
    skipped = random.randrange(len(calls))
    for at, (number, call) in enumerate(calls):
        if at < skipped or random.random() < 0.8:
            try:
                m.do(number, call)
            except NotRunning:
                pass
    return m


def numbers_of(image):
    return {number for row in image[0] for number in (row[0], row[2], row[3])}
