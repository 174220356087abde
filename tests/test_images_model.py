"""[9] and (a), (e) of [1]: images of the second machine of test_model agree with those of the first one.

The images of the Model are put together from the document alone, over its objects.
"""

import unittest

from tests.test_model import EVEN, FAMILIES_MOST, FILES, LETTERS_MOST, PIPES_MOST, Caller, Model, Thing
from treethaw.bars import bar
from treethaw.errors import NoProcess, Outside
from treethaw.images import freeze, is_image, state
from treethaw.machine import Machine


def letters_in(thing):
    return [x for x in thing.letters if isinstance(x, Thing)] if thing.kind == "side" else []


def closure(things):
    """Things that are reached, by first meeting."""
    found = []
    for thing in things:
        if not any(thing is other for other in found):
            found.append(thing)
    for thing in found:
        for letter in letters_in(thing):
            if not any(letter is other for other in found):
                found.append(letter)
    return found


def handles_of(model, number):
    return sorted(model.processes[number]["handles"].items())


def content(thing):
    """The pipe, pair, area or file of a thing; a pair is known by its two sides."""
    if thing.kind in ("reads", "writes"):
        return [thing.pipe]
    if thing.kind == "side":
        return [thing, thing.other]
    return [thing.file] if thing.kind == "file" else [thing]


def among(thing, things):
    return any(thing is other for other in things)


class Pictured:
    def __init__(self, model, numbers):
        self.model, self.numbers = model, numbers
        self.things = closure([t for n in numbers for _, t in handles_of(model, n)])
        self.points = {"pipe": [], "side": [], "area": [], "file": []}
        for thing in self.things:
            points = self.points[self.kind(thing)]
            if not any(among(point, content(thing)) for point in points):
                points.append(content(thing)[0])

    def kind(self, thing):
        return "pipe" if thing.kind in ("reads", "writes") else thing.kind

    def number(self, thing):
        return [n for n, point in enumerate(self.points[self.kind(thing)]) if among(point, content(thing))][0]

    def index(self, thing):
        return [n for n, other in enumerate(self.things) if other is thing][0]

    def thing(self, thing):
        at = self.number(thing)
        rest = {"file": lambda: (thing.place,), "side": lambda: (0 if self.points["side"][at] is thing else 1,)}
        return (thing.kind, at, *rest.get(thing.kind, tuple)())

    def process(self, n):
        p = self.model.processes[n]
        word = self.model.call_about(1, n)[1][2]
        ended = word == "ended"
        return (n, p["parent"] if p["parent"] in self.numbers else None, p["session"], p["group"],
                False if ended else p["adopts"], word, p["code"], p["call"], () if ended else tuple(p["cells"]),
                () if ended else tuple((h, self.index(t)) for h, t in handles_of(self.model, n)))

    def row(self, calls, test):
        return tuple(n for n in self.model.queue if self.model.processes[n]["call"][0] in calls
                     and test(self.model.thing(n, self.model.processes[n]["call"][1])))

    def pipe(self, pipe):
        text = pipe.text if among(pipe.ends[0], self.things) else ""
        return text, self.row(["read"], lambda t: t is pipe.ends[0]), self.row(["write"], lambda t: t is pipe.ends[1])

    def side(self, side):
        held = side.letters if among(side, self.things) else []
        letters = tuple(x if isinstance(x, str) else self.index(x) for x in held)
        return letters, self.row(["read", "take"], lambda t: t is side), self.row(["write", "pass"], lambda t: t is side)

    def file(self, file):
        paths = [path for path, other in self.model.paths.items() if other is file]
        return (paths[0] if paths else None), file.text

    def image(self):
        return (tuple(self.process(n) for n in self.numbers), tuple(self.thing(t) for t in self.things),
                tuple(self.pipe(pipe) for pipe in self.points["pipe"]),
                tuple((self.side(side), self.side(side.other)) for side in self.points["side"]),
                tuple(tuple(area.cells) for area in self.points["area"]),
                tuple(self.file(file) for file in self.points["file"]))


def tree(model, root):
    return sorted({root}.union(*[tree(model, n) for n in model.below(root)]))


def what_is_outside(model, mine):
    p = model.processes
    others = [n for n in p if n not in mine]
    for word in ("session", "group"):
        for value in sorted({p[n][word] for n in mine} - {1}):
            if any(p[n][word] == value for n in others):
                return word, value
    theirs = closure([t for n in others for _, t in handles_of(model, n)])
    pathless = [t for t in theirs if t.kind != "file" or not among(t.file, model.paths.values())]
    for n in mine:
        for handle, start in handles_of(model, n):
            for thing in closure([start]):
                if among(thing, theirs) or any(among(point, content(thing)) for t in pathless for point in content(t)):
                    return "thing", n, handle
    return None


class Agreement(unittest.TestCase):
    def setUp(self):
        self.seen = {}

    def count(self, word):
        self.seen[word] = self.seen.get(word, 0) + 1

    def check(self, machine, model):
        before = state(machine)
        files = tuple(sorted((path, file.text) for path, file in model.paths.items()))
        self.assertEqual(repr(before), repr((Pictured(model, model.numbers()).image(), files)))
        for root in model.numbers() + [77]:
            if root == 1 or not model.alive(root):
                with self.assertRaises(NoProcess) as caught:
                    freeze(machine, root)
                self.assertEqual(caught.exception.number, root)
                continue
            numbers = tree(model, root)
            what = what_is_outside(model, numbers)
            if what is None:
                image = freeze(machine, root)
                self.assertEqual(repr(image), repr(Pictured(model, numbers).image()))
                self.assertTrue(is_image(image), image)
                self.assertIsNone(bar(image))
                self.count("frozen")
            else:
                with self.assertRaises(Outside) as caught:
                    freeze(machine, root)
                self.assertEqual(repr(caught.exception.what), repr(what))
                self.count(what[0])
        self.assertEqual(state(machine), before)

    def compare(self, seed, weights, most_handles, steps):
        caller = Caller(seed, weights, most_handles)
        machine, model = Machine(FILES), Model(FILES)
        if seed % 2:
            for number, call in caller.beginning():
                self.assertEqual(machine.do(number, call), model.do(number, call))
        for at in range(steps):
            number = caller.number(model)
            call = caller.call(model, number)
            if model.running(number):
                self.assertEqual(machine.do(number, call), model.do(number, call))
            if at % 5 == 4:
                self.check(machine, model)

    def agree(self, weights, most_handles, words):
        for seed in range(60):
            self.compare(seed, weights, most_handles, 90)
        for word in words:
            self.assertGreater(self.seen.get(word, 0), 20, word)

    def test_all_calls(self):
        self.agree(EVEN, 8, ["frozen", "thing", "group"])

    def test_letters(self):
        self.agree(dict(LETTERS_MOST, lead=6, join=4), 4, ["frozen", "thing"])

    def test_pipes(self):
        self.agree(dict(PIPES_MOST, lead=6, join=4), 3, ["frozen", "thing"])

    def test_families(self):
        self.agree(FAMILIES_MOST, 3, ["frozen", "session", "group", "thing"])


if __name__ == "__main__":
    unittest.main()
