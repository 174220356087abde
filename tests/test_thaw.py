"""[1] the guarantees: a tree that was thawed is the same tree, and answers further calls like the one never frozen."""

import random
import unittest

from tests.drawing import draw_order
from tests.helper import Case
from tests.test_model import EVEN, FAMILIES_MOST, FILES, LETTERS_MOST, PIPES_MOST, Caller, Model
from tests.thawing import crowded, numbers_of
from treethaw.bars import bar, helpers
from treethaw.errors import NotRunning, Outside
from treethaw.images import freeze, is_image, state
from treethaw.judge import shows_plan
from treethaw.machine import Machine
from treethaw.plans import plan, play

ROOT = 2
FAMILIES = dict(FAMILIES_MOST, fork=25, lead=12, adopt=8, join=12, end=8, wait=12)


def made(machine, number, call):
    try:
        return machine.do(number, call)
    except NotRunning:
        return "not running"


def tree(machine, root):
    return [row[0] for row in freeze(machine, root)[0]]


class Grown(Case):
    """A tree of process 2 that drawn calls grow; the first process only sends to it, so that it shares nothing."""

    def grow(self, seed, weights, most_handles, steps):
        caller = Caller(seed, weights, most_handles)
        machine, model = Machine(FILES), Model(FILES)
        beginning = [(1, ("fork", ROOT))]
        for name in caller.random.choices(["pair", "pipe", "lead", "adopt"], k=3):
            beginning.append((ROOT, (name,)))
        beginning += [(ROOT, ("fork", n)) for n in (6, 3, 8)]
        for number, call in beginning:
            self.assertEqual(made(machine, number, call), self.modelled(model, number, call))
        for _ in range(steps):
            number = caller.number(model)
            call = caller.call(model, number)
            if number == 1:
                kind = caller.random.choice(["stop", "go", "go", "wake"])
                call = ("send", kind, caller.random.choice(model.numbers()))
            if call[0] in ("end", "send", "sendall") and self.ends_root(model, number, call):
                continue
            self.assertEqual(made(machine, number, call), self.modelled(model, number, call))
        # Those that got out of the tree when their parents ended.
        while [n for n in model.below(1) if n != ROOT]:
            number = [n for n in model.below(1) if n != ROOT][0]
            for call in [("send", "end", number), ("wait", number)]:
                self.assertEqual(made(machine, 1, call), self.modelled(model, 1, call))
        return caller, machine, model

    def ends_root(self, model, number, call):
        if call[0] == "end":
            return number == ROOT
        if call[1] != "end":
            return False
        return call[2] == (ROOT if call[0] == "send" else model.processes[ROOT]["group"])

    def modelled(self, model, number, call):
        return model.do(number, call) if model.running(number) else "not running"


class Whole(Grown):
    """The tree is all that there is but for the first process, so a bare machine gets the very same state."""

    def alike(self, seed, weights, most_handles, steps):
        caller, machine, model = self.grow(seed, weights, most_handles, steps)
        image = freeze(machine, ROOT)
        self.assertTrue(is_image(image))
        self.assertIsNone(bar(image))
        bare = Machine(state(machine)[1])
        found = plan(image, bare)
        order = draw_order(caller.random, found, {})
        self.assertTrue(shows_plan(image, bare, found, order))
        thawed = play(bare, found, order)
        self.exact(freeze(thawed, ROOT), image)
        self.exact(state(thawed), state(machine))
        for at in range(60):
            number = caller.number(model)
            call = caller.call(model, number)
            answer = made(machine, number, call)
            self.exact(made(thawed, number, call), answer)
            self.assertEqual(self.modelled(model, number, call), answer)
            if at % 10 == 9:
                self.exact(state(thawed), state(machine))
        return image

    def many(self, weights, most_handles, steps=70):
        words = {}
        for seed in range(80):
            image = self.alike(seed, weights, most_handles, steps)
            for row in image[0]:
                word = row[5] + (" with a call" if row[7] and row[5] == "stopped" else "")
                words[word] = words.get(word, 0) + 1
            for name, part in zip(("things", "pipes", "pairs", "areas", "files"), image[1:]):
                words[name] = words.get(name, 0) + len(part)
            words["helpers"] = words.get("helpers", 0) + sum(map(len, helpers(image)))
        return words

    def test_all_calls(self):
        words = self.many(EVEN, 8)
        for word in ("runs", "waits", "stopped", "ended", "things", "pipes", "pairs", "areas", "files"):
            self.assertGreater(words.get(word, 0), 10, word)

    def test_letters(self):
        self.assertGreater(self.many(LETTERS_MOST, 4)["stopped with a call"], 10)

    def test_pipes(self):
        self.assertGreater(self.many(PIPES_MOST, 3)["stopped with a call"], 10)

    def test_families(self):
        self.assertGreater(self.many(FAMILIES, 3, 150)["helpers"], 5)


class Among(Grown):
    """Any tree that shares nothing, thawed among other processes, as far as calls stay within it."""

    def within(self, twin, thawed, root, call):
        """Whether a call can tell nothing of other processes and files than those of the tree."""
        own = tree(twin, root)
        if call[0] == "fork":
            return call[1] not in taken(twin) | taken(thawed)
        if call[0] == "open":
            return len({dict(state(machine)[1]).get(call[1]) for machine in (twin, thawed)}) == 1
        if call[0] in ("about", "wait"):
            return call[1] in [0, *own]
        if call[0] in ("send", "sendall", "join", "same"):
            return call[2] in own and call[1] != "end" and (
                call[0] != "sendall" or call[2] not in outer_groups(twin, root) | outer_groups(thawed, root))
        return call[0] not in ("end", "make", "remove")

    def one_tree(self, caller, machine, model, root):
        try:
            image = freeze(machine, root)
        except Outside:
            return False
        files = state(machine)[1]
        other = crowded(random.Random(root), numbers_of(image), files)
        if not {file for file in image[5] if file[0] is not None} <= set(state(other)[1]):
            return False
        found = plan(image, other)
        thawed = play(other, found, draw_order(caller.random, found, {}))
        self.exact(freeze(thawed, root), image)
        twin = machine.twin()
        for _ in range(25):
            number = caller.random.choice(tree(twin, root))
            call = caller.call(model, number)
            if caller.random.random() < 0.1:
                call = ("fork", caller.random.randrange(30, 199))
            if not self.within(twin, thawed, root, call):
                continue
            self.exact(made(thawed, number, call), made(twin, number, call))
            self.exact(freeze(thawed, root), freeze(twin, root))
        return True

    def many(self, weights, most_handles):
        seen = 0
        for seed in range(30):
            caller, machine, model = self.grow(seed, weights, most_handles, 60)
            for root in machine.numbers()[1:]:
                if model.alive(root) and model.processes[root]["parent"] is not None:
                    seen += self.one_tree(caller, machine, model, root)
        self.assertGreater(seen, 25)

    def test_all_calls(self):
        self.many(EVEN, 4)

    def test_families(self):
        self.many(FAMILIES_MOST, 2)


def taken(machine):
    return {n for row in state(machine)[0][0] for n in (row[0], row[2], row[3])}


def outer_groups(machine, root):
    own = tree(machine, root)
    return {row[3] for row in state(machine)[0][0] if row[0] not in own}


if __name__ == "__main__":
    unittest.main()
