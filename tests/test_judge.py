"""[11] shows_plan."""

import random
import unittest

from tests.drawing import Drawn, draw_order
from tests.helper import ZEROS, Case, image, listed, part, places, put, row
from tests.thawing import crowded, fault, numbers_of
from treethaw.images import state
from treethaw.judge import shows_plan
from treethaw.machine import Machine
from treethaw.plans import is_order, plan

ONE = image(row(5))
FORK = ((1, ("fork", 5)),)


class Judging(Case):
    def shown(self, told, machine, thing, order=None):
        before = repr(state(machine))
        self.assertIs(shows_plan(told, machine, thing, order), True, thing)
        self.assertEqual(repr(state(machine)), before)

    def not_shown(self, told, machine, thing, order=None):
        before = repr(state(machine))
        self.assertIs(shows_plan(told, machine, thing, order), False, thing)
        self.assertEqual(repr(state(machine)), before)


class Small(Judging):
    def steps(self, *steps):
        return (tuple(steps), ())

    def test_right_ones(self):
        m = Machine()
        self.shown(ONE, m, (FORK, ()))
        self.shown(ONE, m, self.steps((1, ("get", 0)), *FORK, (5, ("about", 1)), (1, ("set", 0, 0))))
        self.shown(ONE, m, self.steps((1, ("pipe",)), *FORK, (1, ("close", 0)), (1, ("close", 1)), (5, ("close", 0)),
                                      (5, ("close", 1))))
        self.shown(image(row(5, session=9)), m, self.steps(
            (1, ("fork", 9)), (9, ("lead",)), (9, ("fork", 5)), (9, ("end", 3)), (1, ("wait", 0))))

    def test_another_image(self):
        m = Machine()
        self.not_shown(ONE, m, ((), ()))
        self.not_shown(ONE, m, self.steps((1, ("fork", 6))))
        self.not_shown(ONE, m, self.steps(*FORK, (5, ("lead",))))
        self.not_shown(ONE, m, self.steps(*FORK, (5, ("set", 0, 1))))
        self.not_shown(ONE, m, self.steps(*FORK, (5, ("end", 0))))
        self.not_shown(ONE, m, self.steps(*FORK, (5, ("end", 0)), (1, ("wait", 5))))
        self.not_shown(ONE, m, self.steps(*FORK, (5, ("fork", 6))))
        self.not_shown(image(row(5), row(6, 5)), m, self.steps(*FORK, (1, ("fork", 6))))

    def test_outside(self):
        told = image(row(5, handles=((0, 0),)), things=(("area", 0),), areas=(ZEROS,))
        self.shown(told, Machine(), self.steps(*FORK, (5, ("area",))))
        self.shown(told, Machine(), self.steps((1, ("area",)), *FORK, (1, ("close", 0))))
        self.not_shown(told, Machine(), self.steps((1, ("area",)), *FORK))

    def test_something_else_is_changed(self):
        m = Machine([("log", "abc")])
        for step in [(1, ("set", 0, 1)), (1, ("make", "b", "")), (1, ("remove", "log")), (1, ("open", "log")),
                     (1, ("area",)), (1, ("fork", 6)), (5, ("make", "c", "")), (5, ("remove", "log"))]:
            self.not_shown(ONE, m, self.steps(*FORK, step))
        self.not_shown(ONE, m, self.steps(*FORK, (5, ("open", "log")), (5, ("write", 0, "z")), (5, ("close", 0))))
        self.shown(ONE, m, self.steps(*FORK, (5, ("open", "log")), (5, ("write", 0, "a")), (5, ("close", 0))))

    def test_other_processes_are_changed(self):
        m = Machine()
        for number, call in [(1, ("pipe",)), (1, ("fork", 9)), (1, ("fork", 8)), (8, ("end", 0)), (1, ("fork", 7))]:
            m.do(number, call)
        clean = ((5, ("close", 0)), (5, ("close", 1)))
        self.shown(ONE, m, self.steps(*FORK, *clean))
        for step in [(1, ("send", "stop", 9)), (1, ("wait", 8)), (1, ("write", 1, "x")), (1, ("join", 7, 7)),
                     (5, ("send", "end", 9)), (1, ("copy", 0, 2)), (1, ("close", 0))]:
            self.not_shown(ONE, m, self.steps(*FORK, *clean, step))
            self.not_shown(ONE, m, self.steps(step, *FORK, *clean))

    def test_strangers(self):
        m = Machine()
        m.do(1, ("fork", 9))
        self.shown(ONE, m, (FORK, ()))
        self.not_shown(ONE, m, self.steps(*FORK, (9, ("get", 0))))
        self.not_shown(ONE, m, self.steps((9, ("get", 0)), *FORK))
        self.not_shown(ONE, m, self.steps(*FORK, (9, ("send", "go", 9))))
        self.not_shown(image(row(5, session=5)), m, self.steps((5, ("lead",)), *FORK))

    def test_refused_and_not_running(self):
        m = Machine()
        for step in [(1, ("get", 4)), (1, ("fork", 5)), (5, ("close", 0)), (6, ("get", 0)), (1, ("wait", 5)),
                     (0, ("get", 0)), (-1, ("get", 0))]:
            self.not_shown(ONE, m, self.steps(*FORK, step))
        self.not_shown(image(row(5, word="stopped")), m, self.steps(*FORK, (1, ("send", "stop", 5)), (5, ("get", 0))))

    def test_others_are_answered(self):
        steps = [(1, ("pipe",)), *FORK, (5, ("read", 0, 1)), (1, ("write", 1, "x")), (5, ("close", 0)),
                 (5, ("close", 1)), (1, ("close", 0)), (1, ("close", 1))]
        self.not_shown(ONE, Machine(), self.steps(*steps))
        steps[2], steps[3] = steps[3], steps[2]
        self.shown(ONE, Machine(), self.steps(*steps))

    def test_helpers(self):
        helper = ((1, ("fork", 6)), (6, ("end", 0)), (1, ("wait", 6)))
        self.not_shown(ONE, Machine(), self.steps(*helper, *FORK))
        self.not_shown(ONE, Machine(), self.steps(*FORK, *helper))
        self.not_shown(image(row(5, group=6)), Machine(), self.steps(
            (1, ("fork", 6)), *FORK, (5, ("join", 5, 6)), (6, ("end", 0)), (1, ("wait", 6)), (1, ("fork", 7)),
            (7, ("end", 0)), (1, ("wait", 7))))

    def test_barred_image(self):
        told = image(row(2, session=2), row(3, 2, 9))
        self.not_shown(told, Machine(), self.steps((1, ("fork", 2)), (2, ("lead",)), (2, ("fork", 3))))

    def test_order(self):
        told = image(row(5, session=5), row(6, 5, 5))
        found = ((*FORK, (5, ("lead",)), (5, ("fork", 6)), (1, ("get", 0))), ((0, 1),))
        m = Machine()
        for order in ([0, 1, 2, 3], (0, 1, 2, 3), [0, 3, 1, 2], (0, 1, 3, 2), None):
            self.shown(told, m, found, order)
        for order in ([1, 0, 2, 3], [0, 2, 1, 3], [0, 1, 2], [], (), [0, 1, 2, 3, 4], [3, 0, 1, 2], [0, 1, 2, True],
                      [0, 1, 2, 2]):
            self.not_shown(told, m, found, order)
        turned = (found[0], ((0, 1), (3, 1)))
        self.not_shown(told, m, turned)
        self.shown(told, m, turned, [0, 3, 1, 2])
        loose = (found[0], ())
        self.shown(told, m, loose)
        self.not_shown(told, m, loose, [1, 2, 0, 3])
        self.assertIs(shows_plan(order=[0, 1, 2, 3], thing=found, machine=m, image=told), True)

    def test_other_values(self):
        m = Machine()
        found = ((*FORK, (5, ("lead",))), ((0, 1),))
        told = image(row(5, session=5))
        self.shown(told, m, found)
        self.shown(listed(told), m, found)
        for thing in (None, True, 0, "", "plan", (), [], (FORK,), (FORK, (), ()), ((), ()), found[0], [*found],
                      (found[0], None), (None, found[1]), (found[0], "01"), (found[0], 0), (found[0], ((0,),)),
                      (found[0], ((0, 1, 1),)), (found[0], ((0, 1), (0, 1))), (found[0], ((0, 2),)),
                      (found[0], ((-1, 1),)), (found[0], (0, 1)), (found[0], ((1, 0), (0, 1))), (found[0], ((1, 1),)),
                      (found[0], (("0", 1),)), (((1, ("fork", 5), 0), found[0][1]), ()), ((("1", FORK[0][1]),), ()),
                      (((None, ("lead",)), *found[0]), ()), ((*found[0], (5, ("nothing",))), ()),
                      ((*found[0], (5, ())), ()), ((*found[0], (5, None)), ()), ((*found[0], ()), ())):
            with self.subTest(thing):
                self.not_shown(told, m, thing)

    def test_lists_and_bools(self):
        m = Machine()
        told = image(row(5, session=5), row(6, 5, 5, cells=(1, 0, 0, 0)))
        found = ((*FORK, (5, ("lead",)), (5, ("fork", 6)), (6, ("set", 0, 1))), ((0, 1), (0, 3), (2, 3)))
        self.shown(told, m, found)
        for at in places(found):
            value = part(found, at)
            if isinstance(value, tuple):
                self.not_shown(told, m, put(found, at, list(value)))
            elif isinstance(value, int):
                self.not_shown(told, m, put(found, at, bool(value)))
        self.not_shown(told, m, listed(found))


def spoilt(r, found):
    """The plan with one thing changed, put in or taken away."""
    steps, pairs = list(found[0]), list(found[1])
    at, other = r.randrange(len(steps)), r.randrange(len(steps))
    way = r.choice(["out", "double", "exchange", "change", "behind", "without", "with", "back", "swap"])
    if way == "out":
        del steps[at]
        pairs = [(i - (i > at), j - (j > at)) for i, j in pairs if at not in (i, j)]
    elif way == "double":
        steps.insert(at, steps[at])
        pairs = [(i + (i >= at), j + (j >= at)) for i, j in pairs]
    elif way == "exchange":
        steps[at], steps[other] = steps[other], steps[at]
    elif way == "swap":
        other = min(at + 1, len(steps) - 1)
        steps[at], steps[other] = steps[other], steps[at]
    elif way == "change":
        number, call = steps[at]
        values = [1 if x == 0 else x - 1 if isinstance(x, int) else x + "a" for x in call[1:]]
        steps[at] = r.choice([(number, steps[other][1]), (steps[other][0], call), (number, (call[0], *values))])
    elif way == "behind":
        steps.append((steps[at][0], r.choice([("get", 0), ("set", 3, 77), ("close", 0), ("fork", 198), ("area",),
                                              ("about", 1), ("make", "zzz", ""), steps[other][1]])))
    elif way == "without" and pairs:
        del pairs[r.randrange(len(pairs))]
    elif way == "with":
        pairs.append((min(at, other), max(at, other)))
    elif way == "back":
        pairs.append((max(at, other), min(at, other)))
    return (tuple(steps), tuple(sorted(set(pairs))))


class Many(Judging):
    def test_spoilt_plans(self):
        files = [("log", "abc"), ("b", "")]
        seen = {True: 0, False: 0}
        for seed in range(60):
            r = random.Random(seed)
            told = Drawn(r, r.choice([1, 2, 3, 4]), r.choice([0, 2, 4]), files).image()
            m = Machine(files) if seed % 2 else crowded(r, numbers_of(told), files)
            found = plan(told, m)
            self.shown(told, m, found)
            for _ in range(25):
                thing = spoilt(r, found)
                order = r.choice([None, draw_order(r, thing, {})])
                wanted = (is_order(thing, list(range(len(thing[0]))) if order is None else order)
                          and fault(told, m, thing, order) is None)
                self.assertIs(shows_plan(told, m, thing, order), wanted, (told, thing, order))
                seen[wanted] += 1
        self.assertGreater(min(seen.values()), 100)

    def test_drawn_orders(self):
        for seed in range(40):
            r = random.Random(seed)
            told = Drawn(r, r.choice([2, 3, 5]), r.choice([2, 4, 8]), [("log", "abc")]).image()
            m = Machine([("log", "abc")])
            found = plan(told, m)
            for _ in range(3):
                order = draw_order(r, found, {})
                self.shown(told, m, found, order)
                self.shown(told, m, found, tuple(order))
                at = r.randrange(len(order))
                self.not_shown(told, m, found, order[:at] + order[at + 1:])


if __name__ == "__main__":
    unittest.main()
