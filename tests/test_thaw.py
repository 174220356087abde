"""[1] the guarantees: a tree that was thawed is the same tree, and answers further calls like the one never frozen."""

import random
import unittest

from tests.drawing import draw_order
from tests.growing import ROOT, Grown, made
from tests.test_model import EVEN, FAMILIES_MOST, LETTERS_MOST, PIPES_MOST
from tests.thawing import crowded, numbers_of
from treethaw.bars import bar, helpers
from treethaw.errors import Outside
from treethaw.images import freeze, is_image, state
from treethaw.judge import shows_plan
from treethaw.machine import Machine
from treethaw.plans import plan, play

FAMILIES = dict(FAMILIES_MOST, fork=25, lead=12, adopt=8, join=12, end=8, wait=12)


class Whole(Grown):
    """The tree is all that there is but for the first process, so a bare machine gets the very same state."""

    def alike(self, seed, weights, most_handles, steps):
        caller, machine, model = self.grow(seed, weights, most_handles, steps)
        image = freeze(machine, ROOT)
        self.assertTrue(is_image(image))
        self.assertIsNone(bar(image))
        bare = Machine(state(machine)[1])
        found = plan(image, bare)
        order = draw_order(caller.random, found, {})
        self.assertTrue(shows_plan(image, bare, found, order))
        thawed = play(bare, found, order)
        self.exact(freeze(thawed, ROOT), image)
        self.exact(state(thawed), state(machine))
        for at in range(60):
            number = caller.number(model)
            call = caller.call(model, number)
            answer = made(machine, number, call)
            self.exact(made(thawed, number, call), answer)
            self.assertEqual(self.modelled(model, number, call), answer)
            if at % 10 == 9:
                self.exact(state(thawed), state(machine))
        return image

    def many(self, weights, most_handles, steps=70):
        words = {}
        for seed in range(80):
            image = self.alike(seed, weights, most_handles, steps)
            for row in image[0]:
                word = row[5] + (" with a call" if row[7] and row[5] == "stopped" else "")
                words[word] = words.get(word, 0) + 1
            for name, part in zip(("things", "pipes", "pairs", "areas", "files"), image[1:]):
                words[name] = words.get(name, 0) + len(part)
            words["helpers"] = words.get("helpers", 0) + sum(map(len, helpers(image)))
        return words

    def test_all_calls(self):
        words = self.many(EVEN, 8)
        for word in ("runs", "waits", "stopped", "ended", "things", "pipes", "pairs", "areas", "files"):
            self.assertGreater(words.get(word, 0), 10, word)

    def test_letters(self):
        self.assertGreater(self.many(LETTERS_MOST, 4)["stopped with a call"], 10)

    def test_pipes(self):
        self.assertGreater(self.many(PIPES_MOST, 3)["stopped with a call"], 10)

    def test_families(self):
        self.assertGreater(self.many(FAMILIES, 3, 150)["helpers"], 5)


class Among(Grown):
    """Any tree that shares nothing, thawed among other processes, as far as calls stay within it."""

    def one_tree(self, caller, machine, model, root):
        try:
            image = freeze(machine, root)
        except Outside:
            return False
        files = state(machine)[1]
        other = crowded(random.Random(root), numbers_of(image), files)
        if not {file for file in image[5] if file[0] is not None} <= set(state(other)[1]):
            return False
        found = plan(image, other)
        thawed = play(other, found, draw_order(caller.random, found, {}))
        self.exact(freeze(thawed, root), image)
        self.goes_on(caller, model, machine.twin(), thawed, root, 25)
        return True

    def many(self, weights, most_handles):
        seen = 0
        for seed in range(30):
            caller, machine, model = self.grow(seed, weights, most_handles, 60)
            for root in machine.numbers()[1:]:
                if model.alive(root) and model.processes[root]["parent"] is not None:
                    seen += self.one_tree(caller, machine, model, root)
        self.assertGreater(seen, 25)

    def test_all_calls(self):
        self.many(EVEN, 4)

    def test_families(self):
        self.many(FAMILIES_MOST, 2)


if __name__ == "__main__":
    unittest.main()
