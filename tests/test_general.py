"""[2] the general rules at every door, [3] bounds, [16] the names of the interface."""

import ast
import copy
import importlib
import inspect
import random
import unittest
from pathlib import Path

from tests.drawing import Drawn
from tests.helper import ZEROS, Case, image, listed, row
from tests.thawing import ThawCase, crowded, numbers_of
from treethaw.bars import bar, helpers, shows_bar
from treethaw.desk import answers
from treethaw.errors import BadLine, BadText, Barred, NotNow, Outside
from treethaw.images import freeze, is_image, state
from treethaw.judge import shows_plan
from treethaw.machine import Machine
from treethaw.moving import Giver, Taker, cut
from treethaw.parting import alike, parting, shows_parting
from treethaw.plans import helpers_of, is_order, plan, play
from treethaw.texts import image_in, image_text

FOLDER = Path(__file__).resolve().parent.parent / "treethaw"
INTERFACE = {
    "machine": {"Machine": "(files=())", "is_call": "(thing)"},
    "images": {"freeze": "(machine, root)", "state": "(machine)", "is_image": "(thing)"},
    "bars": {"bar": "(image)", "shows_bar": "(image, thing)", "helpers": "(image)"},
    "plans": {"plan": "(image, machine)", "is_order": "(plan, thing)", "play": "(machine, plan, order=None)",
              "helpers_of": "(image, plan)"},
    "judge": {"shows_plan": "(image, machine, thing, order=None)"},
    "parting": {"alike": "(one, other)", "parting": "(one, other)", "shows_parting": "(one, other, thing)"},
    "moving": {"Giver": "()", "Taker": "()", "cut": "(text, size)"},
    "texts": {"image_text": "(image)", "image_in": "(text)"},
    "desk": {"answers": "(text)"},
    "errors": {"BadText": "()", "BadLine": "(number)", "NoOrder": "()", "Outside": "(what)", "NoProcess": "(number)",
               "BadStep": "(index)", "NotRunning": "(number)", "Barred": "(reason)", "NotNow": "(word)"},
}
METHODS = {
    ("machine", "Machine"): {"do": "(self, number, call)", "numbers": "(self)", "twin": "(self)"},
    ("moving", "Giver"): {"phase": "(self)", "freeze": "(self, pieces)", "resume": "(self)",
                          "receive": "(self, message)", "messages": "(self)"},
    ("moving", "Taker"): {"receive": "(self, message)", "messages": "(self)", "running": "(self)"},
}
RING = image(row(2, session=2, adopts=True), row(3, 2, 5), row(5, 3, 5))


def mixed(r, value):
    """Lists for some of the tuples, at any depth."""
    if isinstance(value, (list, tuple)):
        return r.choice([list, tuple])([mixed(r, item) for item in value])
    return value


class Names(unittest.TestCase):
    def test_defined_in_their_files(self):
        for name, wanted in INTERFACE.items():
            body = ast.parse((FOLDER / f"{name}.py").read_text()).body
            defined = {node.name for node in body if isinstance(node, (ast.FunctionDef, ast.ClassDef))}
            self.assertLessEqual(set(wanted), defined)

    def test_arguments(self):
        for name, wanted in INTERFACE.items():
            module = importlib.import_module(f"treethaw.{name}")
            for function, arguments in wanted.items():
                with self.subTest(file=name, function=function):
                    self.assertEqual(str(inspect.signature(getattr(module, function))), arguments)

    def test_methods(self):
        for (name, kind), wanted in METHODS.items():
            own = vars(getattr(importlib.import_module(f"treethaw.{name}"), kind))
            for method, arguments in wanted.items():
                with self.subTest(kind=kind, method=method):
                    self.assertEqual(str(inspect.signature(own[method])), arguments)


class Arguments(ThawCase):
    def setUp(self):
        r = random.Random(11)
        self.files = [("log", "abc"), ("b", "")]
        self.images = [Drawn(r, r.randint(1, 6), r.choice([0, 4, 8]), self.files).image() for _ in range(20)]

    def test_lists_for_tuples(self):
        r = random.Random(3)
        m = Machine(self.files)
        for told in [*self.images, RING]:
            for other in (listed(told), mixed(r, told), mixed(r, told)):
                self.exact(bar(other), bar(told))
                self.assertIs(shows_bar(other, bar(told)), bar(told) is not None)
                self.exact(helpers(other), helpers(told))
                if bar(told) is None:
                    found = plan(told, m)
                    self.exact(plan(other, m), found)
                    self.assertIs(shows_plan(other, m, found), True)
                    self.assertIs(shows_plan(other, m, listed(found)), False)
                    turns = list(range(len(found[0])))
                    for same in (listed(found), mixed(r, found)):
                        self.assertIs(is_order(same, turns), True)
                        self.assertIs(is_order(same, tuple(turns)), False)
                        self.exact(state(play(m, same, tuple(turns))), state(play(m, found)))
                        self.exact(state(play(m, same)), state(play(m, found)))
                        self.exact(helpers_of(other, same), helpers_of(told, found))

    def test_by_name(self):
        told = self.images[0]
        m = Machine(files=self.files)
        found = plan(machine=m, image=told)
        turns = list(range(len(found[0])))
        self.exact(found, plan(told, m))
        twin = play(plan=found, machine=m, order=turns)
        root = next(p[0] for p in told[0] if p[1] is None)
        self.exact(freeze(root=root, machine=twin), told)
        self.exact(state(machine=twin), state(twin))
        self.exact([is_image(thing=told), bar(image=told), shows_bar(thing=None, image=told),
                    is_order(thing=turns, plan=found), helpers_of(plan=found, image=told),
                    shows_plan(order=turns, thing=found, machine=m, image=told), helpers(image=told)],
                   [True, None, False, True, helpers_of(told, found), True, helpers(told)])

    def test_order_is_left_out(self):
        m = Machine(self.files)
        found = plan(self.images[0], m)
        self.exact(state(play(m, found)), state(play(m, found, None)))
        self.assertIs(shows_plan(self.images[0], m, found), True)

    def test_nothing_is_changed(self):
        for told in [*self.images, RING]:
            m = crowded(random.Random(2), numbers_of(told), self.files)
            other = listed(told)
            before, kept = repr(state(m)), copy.deepcopy(other)
            bar(other), helpers(other), shows_bar(other, ("ring", [3]))
            if bar(told) is None:
                found = listed(plan(other, m))
                again, turns = copy.deepcopy(found), list(range(len(found[0])))
                is_order(found, turns), play(m, found, turns), helpers_of(other, found)
                shows_plan(other, m, plan(told, m), turns)
                self.assertEqual((found, turns), (again, list(range(len(found[0])))))
            self.assertEqual((repr(state(m)), other), (before, kept))

    def test_equal_results(self):
        for told in self.images:
            m = crowded(random.Random(2), numbers_of(told), self.files)
            self.exact(plan(told, m), plan(told, m))
            self.exact(plan(told, m), plan(told, m.twin()))
            self.exact(state(m), state(m.twin()))

    def test_plans_keep_no_lists(self):
        told = image(row(5, word="waits", call=("read", 0, 1), handles=((0, 0), (1, 1))), row(6, 5, code=1),
                     things=(("reads", 0), ("writes", 0)), pipes=(("", (5,), ()),))
        self.has_form(plan(listed(told), Machine()))

    def test_values_may_be_passed_in_again(self):
        m = Machine(self.files)
        for told in self.images[:5]:
            root = next(p[0] for p in told[0] if p[1] is None)
            twin = play(m, plan(told, m))
            again = freeze(twin, root)
            self.exact(plan(again, m), plan(told, m))
            third = play(m, plan(again, m))
            self.exact(state(third), state(twin))

    def test_reasons_are_new(self):
        with self.assertRaises(Barred) as caught:
            plan(RING, Machine())
        caught.exception.reason[1].append(9)
        with self.assertRaises(Barred) as caught:
            plan(RING, Machine())
        self.exact(caught.exception.reason, ("ring", [3]))


class LastDoors(ThawCase):
    """Machines, partings, messages, texts and sheets."""

    def setUp(self):
        r = random.Random(12)
        self.images = [Drawn(r, r.randint(1, 5), r.choice([0, 4, 8]), [("log", "abc")]).image() for _ in range(20)]

    def test_calls_as_lists(self):
        one, other = Machine([("log", "abc")]), Machine([["log", "abc"]])
        for number, call in [(1, ("fork", 5)), (5, ("pipe",)), (5, ("fork", 6)), (6, ("read", 0, 2)), (1, ("about", 6)),
                             (5, ("write", 1, "abc")), (6, ("read", 0, 1)), (6, ("read", 0, 1)), (1, ("open", "log")),
                             (1, ("send", "stop", 6)), (1, ("about", 6)), (1, ("handles",))]:
            again = list(call)
            self.exact(one.do(number, call), other.do(call=again, number=number))
            again[:] = ["lead"]
        self.exact(state(one), state(other))
        self.exact(freeze(one, 5), freeze(machine=other, root=5))

    def test_returned_lists_are_new(self):
        m = Machine([("log", "abc")])
        m.do(1, ("pipe",)), m.do(1, ("fork", 5)), m.do(5, ("read", 0, 1))
        m.numbers().clear()
        m.do(1, ("write", 1, "a"))[1].clear()
        self.exact(m.numbers(), [1, 5])
        found = helpers(image(row(5, session=9)))
        found[0].clear()
        self.exact(helpers(image(row(5, session=9))), ([9], [], []))
        other = Machine()
        parting(m, other).clear()
        self.assertTrue(shows_parting(m, other, parting(m, other)))

    def test_partings_by_name_and_again(self):
        for told in self.images:
            bare = Machine([("log", "abc")])
            other = play(bare, plan(told, bare))
            steps = parting(bare, other)
            self.exact(parting(other=other, one=bare), steps)
            self.exact(parting(bare.twin(), other.twin()), steps)
            self.exact([alike(other=other, one=bare), alike(one=other, other=other)], [False, True])
            self.exact(shows_parting(thing=steps, other=other, one=bare), True)
            for thing in (listed(steps), tuple(steps), [list(step) for step in steps], [(n, list(c)) for n, c in steps]):
                self.exact(shows_parting(bare, other, thing), False)

    def test_texts_of_lists(self):
        r = random.Random(4)
        for told in self.images:
            text = image_text(told)
            for same in (listed(told), mixed(r, told)):
                kept = copy.deepcopy(same)
                self.exact(image_text(image=same), text)
                self.assertEqual(same, kept)
            self.exact(image_in(text=text), told)
            self.exact(image_in(text), image_in(text))

    def test_messages_as_lists(self):
        r = random.Random(5)
        for kind in (tuple, list):
            giver, taker = Giver(), Taker()
            giver.freeze(kind(cut("some text", 4)))
            for _ in range(3):
                for message in r.sample(giver.messages(), len(giver.messages())):
                    taker.receive(message=kind(message))
                for message in taker.messages():
                    giver.receive(message=kind(message))
            self.exact((taker.running(), giver.phase(), giver.messages(), taker.messages()),
                       ("some text", "given", [], [("going", 1)]))

    def test_after_errors(self):
        giver = Giver()
        self.assertRaises(NotNow, giver.resume)
        self.exact((giver.phase(), giver.freeze(["a"])), ("runs", 1))
        self.assertRaises(NotNow, giver.freeze, ["b"])
        self.exact(giver.messages(), [("piece", 1, 0, 1, "a")])
        self.assertRaises(BadText, image_in, "x")
        with self.assertRaises(BadLine) as caught:
            answers(text="state\nx")
        self.exact(caught.exception.number, 1)
        self.exact(answers("state"), ["1 0"])


class AfterErrors(Case):
    def test_nothing_changes(self):
        m = Machine()
        m.do(1, ("area",))
        m.do(1, ("fork", 5))
        before = repr(state(m))
        self.assertRaises(Outside, freeze, m, 5)
        self.assertRaises(Barred, plan, image(row(5)), m)
        self.assertEqual(repr(state(m)), before)


class Bounds(ThawCase):
    def test_machine_of_24_processes(self):
        m = Machine()
        for number in range(2, 25):
            m.do(1, ("fork", number))
            m.do(number, ("lead",))
        told = image(*[row(n, None if n == 30 else 30, n, adopts=n == 30) for n in range(30, 36)],
                     *[row(n, 30, n - 10) for n in range(41, 46)])
        self.assertEqual(helpers(told), ([], [], [31, 32, 33, 34, 35]))
        self.thaws(told, m, random.Random(4))

    def test_large_numbers(self):
        big = 10 ** 12
        told = image(row(199, cells=(big, -big, 0, big), handles=((big - 1, 0), (big, 1))),
                     things=(("area", 0), ("area", 1)), areas=((big, 0, 0, -big), ZEROS))
        m = Machine()
        m.do(1, ("area",))
        m.do(1, ("copy", 0, big))
        m.do(1, ("close", 0))
        self.thaws(told, m, random.Random(4))

    def test_forty_things(self):
        things = tuple(thing for at in range(20) for thing in (("reads", at), ("writes", at)))
        told = image(*[row(n, None if n == 2 else 2, handles=tuple((n + at, at) for at in range(40)))
                       for n in range(2, 14)], things=things, pipes=tuple(("12345678", (), ()) for _ in range(20)))
        self.thaws(told, Machine())


if __name__ == "__main__":
    unittest.main()
