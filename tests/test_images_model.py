"""[9] and (a), (e) of [1]: images of the second machine of test_model agree with those of the first one.

The images of the Model are put together from the document alone, over its objects.
"""

import random
import re
import unittest

from tests.drawing import Drawn
from tests.helper import part, places, put
from tests.test_model import EVEN, FAMILIES_MOST, FILES, LETTERS_MOST, PIPES_MOST, Caller, Model, Refused, Thing
from treethaw.bars import bar
from treethaw.errors import NoProcess, Outside
from treethaw.images import freeze, is_image, state
from treethaw.machine import Machine, is_call


def letters_in(thing):
    return [x for x in thing.letters if isinstance(x, Thing)] if thing.kind == "side" else []


def closure(things):
    """Things that are reached, by first meeting."""
    found = []
    for thing in things:
        if not any(thing is other for other in found):
            found.append(thing)
    for thing in found:
        for letter in letters_in(thing):
            if not any(letter is other for other in found):
                found.append(letter)
    return found


def handles_of(model, number):
    return sorted(model.processes[number]["handles"].items())


def content(thing):
    """The pipe, pair, area or file of a thing; a pair is known by its two sides."""
    if thing.kind in ("reads", "writes"):
        return [thing.pipe]
    if thing.kind == "side":
        return [thing, thing.other]
    return [thing.file] if thing.kind == "file" else [thing]


def among(thing, things):
    return any(thing is other for other in things)


class Pictured:
    def __init__(self, model, numbers):
        self.model, self.numbers = model, numbers
        self.things = closure([t for n in numbers for _, t in handles_of(model, n)])
        self.points = {"pipe": [], "side": [], "area": [], "file": []}
        for thing in self.things:
            points = self.points[self.kind(thing)]
            if not any(among(point, content(thing)) for point in points):
                points.append(content(thing)[0])

    def kind(self, thing):
        return "pipe" if thing.kind in ("reads", "writes") else thing.kind

    def number(self, thing):
        return [n for n, point in enumerate(self.points[self.kind(thing)]) if among(point, content(thing))][0]

    def index(self, thing):
        return [n for n, other in enumerate(self.things) if other is thing][0]

    def thing(self, thing):
        at = self.number(thing)
        rest = {"file": lambda: (thing.place,), "side": lambda: (0 if self.points["side"][at] is thing else 1,)}
        return (thing.kind, at, *rest.get(thing.kind, tuple)())

    def process(self, n):
        p = self.model.processes[n]
        word = self.model.call_about(1, n)[1][2]
        ended = word == "ended"
        return (n, p["parent"] if p["parent"] in self.numbers else None, p["session"], p["group"],
                False if ended else p["adopts"], word, p["code"], p["call"], () if ended else tuple(p["cells"]),
                () if ended else tuple((h, self.index(t)) for h, t in handles_of(self.model, n)))

    def row(self, calls, test):
        return tuple(n for n in self.model.queue if self.model.processes[n]["call"][0] in calls
                     and test(self.model.thing(n, self.model.processes[n]["call"][1])))

    def pipe(self, pipe):
        text = pipe.text if among(pipe.ends[0], self.things) else ""
        return text, self.row(["read"], lambda t: t is pipe.ends[0]), self.row(["write"], lambda t: t is pipe.ends[1])

    def side(self, side):
        held = side.letters if among(side, self.things) else []
        letters = tuple(x if isinstance(x, str) else self.index(x) for x in held)
        rows = [self.row(calls, lambda t: t is side) for calls in (["read", "take"], ["write", "pass"])]
        return letters, *rows

    def file(self, file):
        paths = [path for path, other in self.model.paths.items() if other is file]
        return (paths[0] if paths else None), file.text

    def image(self):
        return (tuple(self.process(n) for n in self.numbers), tuple(self.thing(t) for t in self.things),
                tuple(self.pipe(pipe) for pipe in self.points["pipe"]),
                tuple((self.side(side), self.side(side.other)) for side in self.points["side"]),
                tuple(tuple(area.cells) for area in self.points["area"]),
                tuple(self.file(file) for file in self.points["file"]))


def tree(model, root):
    return sorted({root}.union(*[tree(model, n) for n in model.below(root)]))


def what_is_outside(model, mine):
    p = model.processes
    others = [n for n in p if n not in mine]
    for word in ("session", "group"):
        for value in sorted({p[n][word] for n in mine} - {1}):
            if any(p[n][word] == value for n in others):
                return word, value
    theirs = closure([t for n in others for _, t in handles_of(model, n)])
    pathless = [t for t in theirs if t.kind != "file" or not among(t.file, model.paths.values())]
    for n in mine:
        for handle, start in handles_of(model, n):
            for thing in closure([start]):
                if among(thing, theirs) or any(among(point, content(thing)) for t in pathless for point in content(t)):
                    return "thing", n, handle
    return None


class Agreement(unittest.TestCase):
    def setUp(self):
        self.seen = {}

    def count(self, word):
        self.seen[word] = self.seen.get(word, 0) + 1

    def check(self, machine, model):
        before = state(machine)
        files = tuple(sorted((path, file.text) for path, file in model.paths.items()))
        self.assertEqual(repr(before), repr((Pictured(model, model.numbers()).image(), files)))
        for root in model.numbers() + [77]:
            if root == 1 or not model.alive(root):
                with self.assertRaises(NoProcess) as caught:
                    freeze(machine, root)
                self.assertEqual(caught.exception.number, root)
                continue
            numbers = tree(model, root)
            what = what_is_outside(model, numbers)
            if what is None:
                image = freeze(machine, root)
                self.assertEqual(repr(image), repr(Pictured(model, numbers).image()))
                self.assertTrue(is_image(image), image)
                self.assertIsNone(bar(image))
                self.count("frozen")
            else:
                with self.assertRaises(Outside) as caught:
                    freeze(machine, root)
                self.assertEqual(repr(caught.exception.what), repr(what))
                self.count(what[0])
        self.assertEqual(state(machine), before)

    def compare(self, seed, weights, most_handles, steps):
        caller = Caller(seed, weights, most_handles)
        machine, model = Machine(FILES), Model(FILES)
        if seed % 2:
            for number, call in caller.beginning():
                self.assertEqual(machine.do(number, call), model.do(number, call))
        for at in range(steps):
            number = caller.number(model)
            call = caller.call(model, number)
            if model.running(number):
                self.assertEqual(machine.do(number, call), model.do(number, call))
            if at % 5 == 4:
                self.check(machine, model)

    def agree(self, weights, most_handles, words):
        for seed in range(60):
            self.compare(seed, weights, most_handles, 90)
        for word in words:
            self.assertGreater(self.seen.get(word, 0), 20, word)

    def test_all_calls(self):
        self.agree(EVEN, 8, ["frozen", "thing", "group"])

    def test_letters(self):
        self.agree(dict(LETTERS_MOST, lead=6, join=4), 4, ["frozen", "thing"])

    def test_pipes(self):
        self.agree(dict(PIPES_MOST, lead=6, join=4), 3, ["frozen", "thing"])

    def test_families(self):
        self.agree(FAMILIES_MOST, 3, ["frozen", "session", "group", "thing"])


def rebuilt(told):
    """A Model with just what an image tells."""
    processes, things, pipes, pairs, areas, files = told
    model = Model()
    contents = [Thing("content", text=text) for _, text in files]
    model.paths = {path: content for (path, _), content in zip(files, contents) if path is not None}
    tubes = [Thing("pipe", text=pipe[0]) for pipe in pipes]
    for tube in tubes:
        tube.ends = Thing("reads", pipe=tube), Thing("writes", pipe=tube)
    sides = [[Thing("side", letters=[]), Thing("side", letters=[])] for _ in pairs]
    for one, two in sides:
        one.other, two.other = two, one
    makers = {"file": lambda at, place: Thing("file", file=contents[at], place=place),
              "reads": lambda at: tubes[at].ends[0], "writes": lambda at: tubes[at].ends[1],
              "side": lambda at, turn: sides[at][turn]}
    fields = [Thing("area", cells=list(cells)) for cells in areas]
    made = [fields[thing[1]] if thing[0] == "area" else makers[thing[0]](*thing[1:]) for thing in things]
    for pair, both in zip(pairs, sides):
        for side, one in zip(pair, both):
            one.letters = [letter if isinstance(letter, str) else made[letter] for letter in side[0]]
    for number, parent, session, group, adopts, word, code, call, cells, handles in processes:
        model.processes[number] = dict(
            parent=parent, session=session, group=group, adopts=adopts, stopped=word == "stopped", code=code, call=call,
            cells=list(cells), handles={handle: made[at] for handle, at in handles})
    rows = [row for pipe in pipes for row in pipe[1:]] + [row for pair in pairs for side in pair for row in side[1:]]
    model.queue = [number for row in rows for number in row]
    model.queue += [p[0] for p in processes if p[7] is not None and p[7][0] == "wait"]
    return model


def call_waits(model, number, call):
    """Whether a call is one that waits in a row, if not now."""
    if not is_call(call):
        return False
    if call[0] == "wait":
        return call[1] in [0] + model.below(number) and model.below(number)
    kinds = {"read": ("reads", "side"), "write": ("writes", "side"), "take": ("side",), "pass": ("side",)}
    if model.thing(number, call[1]).kind not in kinds[call[0]]:
        return False
    if call[0] == "pass":
        return model.thing(number, call[2]) is not None
    return call[0] != "write" or len(call[2]) <= 8


def is_image_again(told):
    """The rules of is_image once more, for values whose parts are of the right kinds but may have changed places."""
    processes, things, pipes, pairs, areas, files = told
    kinds = [int, (int, type(None)), int, int, bool, str, (int, type(None)), (tuple, type(None)), tuple, tuple]
    for p in processes:
        if len(p) != 10 or not all(isinstance(x, kind) for x, kind in zip(p, kinds)) or bool in map(type, p[:4]):
            return False
    numbers = [p[0] for p in processes]
    paths = [path for path, _ in files if path is not None]
    if numbers != sorted(set(numbers)) or len(paths) != len(set(paths)):
        return False
    if not all(re.fullmatch("[a-z]+", path) for path in paths):
        return False
    if any(not 2 <= n <= 199 for n in numbers) or any(not 1 <= x <= 199 for p in processes for x in p[2:4]):
        return False
    if any(at < 0 for thing in things for at in thing[1:]) or any(x < 0 for p in processes for h in p[9] for x in h):
        return False
    letters = [letter for pair in pairs for side in pair for letter in side[0]]
    if any(letter == "" if isinstance(letter, str) else letter < 0 for letter in letters):
        return False
    model = rebuilt(told)
    roots = [p[0] for p in processes if p[1] is None]
    if len(roots) != 1 or tree(model, roots[0]) != numbers or model.processes[roots[0]]["code"] is not None:
        return False
    if repr(Pictured(model, numbers).image()) != repr(told):
        return False
    if any(model.below(p[0]) or p[9] or p[7] or p[8] for p in processes if p[6] is not None):
        return False
    if any(len(p[8]) != 4 for p in processes if p[6] is None) or any(len(cells) != 4 for cells in areas):
        return False
    if any(len(pipe[0]) > 8 for pipe in pipes) or any(len(side[0]) > 4 for pair in pairs for side in pair):
        return False
    if any(isinstance(letter, str) and len(letter) > 8 for letter in letters):
        return False
    if any(thing[0] == "file" and thing[2] > len(files[thing[1]][1]) for thing in things):
        return False
    calls = {p[0]: p[7] for p in processes if p[7] is not None}
    if sorted(model.queue) != sorted(calls) or not all(call_waits(model, n, calls[n]) for n in calls):
        return False
    return all(model.outcome(n, calls[n]) is None for n in model.heads().values())


def another(r, told, value):
    """Another value of the same kind."""
    if isinstance(value, bool):
        return not value
    if isinstance(value, int):
        return r.choice([value + 1, value - 1, 0, 5, *[p[0] for p in told[0]]])
    if isinstance(value, str):
        return r.choice([value + "a", value[1:], "", "runs", "waits", "stopped", "reads", "writes", "log", "12345678"])
    if isinstance(value, tuple) and value:
        at, other = r.randrange(len(value)), r.randrange(len(value))
        items = list(value)
        items[at], items[other] = items[other], items[at]
        return r.choice([value[:at] + value[at + 1:], value[:at] + value[at:at + 1] + value[at:], tuple(items)])
    return value


class SpoiltImages(unittest.TestCase):
    def agrees(self, told, seen):
        try:
            wanted = bool(is_image_again(told))
        except (LookupError, ValueError, TypeError, AttributeError, RecursionError, Refused):
            wanted = False
        self.assertIs(is_image(told), wanted, told)
        seen[wanted] = seen.get(wanted, 0) + 1

    def test_spoilt_at_one_place(self):
        seen = {}
        for seed in range(150):
            r = random.Random(seed)
            told = Drawn(r, r.randint(1, 5), r.choice([2, 4, 6]), [("log", "abc"), ("b", "")]).image()
            self.agrees(told, seen)
            for _ in range(40):
                at = r.choice(places(told)[1:])
                self.agrees(put(told, at, another(r, told, part(told, at))), seen)
        self.assertGreater(min(seen[True], seen[False]), 1000)

    def test_words_and_rows(self):
        seen = {}
        for seed in range(150):
            r = random.Random(seed)
            told = Drawn(r, r.randint(2, 6), r.choice([2, 4]), [("log", "abc")]).image()
            for at in places(told):
                value = part(told, at)
                if len(at) == 3 and at[0] == 0 and at[2] == 5 and value != "ended":
                    for word in ("runs", "waits", "stopped"):
                        self.agrees(put(told, at, word), seen)
                if at[:1] == (2,) and len(at) == 2:
                    for text in ("", "1", "1234", "1234567", "12345678"):
                        self.agrees(put(told, (*at, 0), text), seen)
                if at[:1] == (3,) and len(at) == 4 and at[3] == 0:
                    for letters in ((), ("a",), (0,), ("a", "b", "c", "d"), ("a", "b", "c", "d", "e")):
                        self.agrees(put(told, at, letters), seen)
        self.assertGreater(min(seen[True], seen[False]), 300)


if __name__ == "__main__":
    unittest.main()
