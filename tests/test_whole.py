"""[1] the whole way of a tree: frozen, written, cut, moved, joined, read, and thawed beside other processes."""

import random
import unittest

from tests.drawing import Drawn, draw_order
from tests.growing import ROOT, Grown, made
from tests.test_model import EVEN
from tests.thawing import ThawCase, crowded, numbers_of, root_of
from treethaw.bars import bar, helpers
from treethaw.errors import Barred, NotNow
from treethaw.images import freeze, is_image, state
from treethaw.judge import shows_plan
from treethaw.machine import Machine
from treethaw.moving import Giver, Taker, cut
from treethaw.parting import alike, parting, shows_parting
from treethaw.plans import helpers_of, plan, play
from treethaw.texts import image_in, image_text

BUSY = dict(EVEN, fork=3, lead=1, adopt=1, join=3, end=0, send=6, close=1, copy=1, read=14, write=14, take=6)


def moved(random, text):
    """The text as it comes over a bad link, on which some tries are given up."""
    giver, taker, link = Giver(), Taker(), []
    pieces = cut(text, random.randint(20, 400))
    while taker.running() is None:
        if giver.phase() == "runs":
            giver.freeze(pieces)
        elif giver.phase() == "frozen" and random.random() < 0.03:
            giver.resume()
        link += [(taker, message) for message in giver.messages() if random.random() < 0.3]
        link += [(giver, message) for message in taker.messages() if random.random() < 0.3]
        random.shuffle(link)
        half = len(link) // 2 + 1
        for to, message in link[:half]:
            to.receive(message)
            if taker.running() is not None and giver.phase() != "given":
                raise AssertionError("both trees run")
        # Some come once more, much later perhaps.
        link = [pair for at, pair in enumerate(link) if at >= half or random.random() < 0.2]
    return taker.running()


class LongWay(Grown):
    """Trees of twelve processes and twenty things, and what they answer behind it."""

    def beginning(self, caller):
        r = caller.random
        calls = [(1, ("fork", ROOT)), *[(ROOT, (name,)) for name in r.sample(["lead", "adopt"], r.randrange(3))]]
        things = ["pipe"] * 4 + ["pair"] * 4 + ["area"] * 2
        calls += [(ROOT, (name,)) for name in r.sample(things, len(things))]
        calls += [(ROOT, ("open", "log")), (ROOT, ("open", "a"))]
        born = [ROOT]
        for number in r.sample([3, 4, 5, 6, 7, 8, 9, 10, 11, 12, 199], 11):
            calls.append((r.choice(born), ("fork", number)))
            born.append(number)
        return calls

    def test_trees(self):
        sizes, calls = [], 0
        for seed in range(25):
            caller, machine, model = self.grow(seed, BUSY, 24, 60)
            image = freeze(machine, ROOT)
            self.assertTrue(is_image(image))
            text = moved(caller.random, image_text(image))
            self.exact(image_in(text), image)
            other = crowded(caller.random, numbers_of(image), [])
            files = dict(state(other)[1])
            for path, content in image[5]:
                if path is not None:
                    if path in files:
                        other.do(1, ("remove", path))
                    other.do(1, ("make", path, content))
            found = plan(image_in(text), other)
            thawed = play(other, found, draw_order(caller.random, found, {}))
            self.exact(freeze(thawed, ROOT), image)
            self.exact(image_text(freeze(thawed, ROOT)), text)
            calls += self.goes_on(caller, model, machine.twin(), thawed, ROOT, 60)
            sizes.append((len(image[0]), len(image[1])))
        self.assertGreater(calls, 500)
        self.assertGreater(len([size for size in sizes if size[0] >= 12 and size[1] >= 20]), 8, sizes)

    def test_the_very_machine(self):
        """Thawed on a bare machine, the tree is all there is, so that any call at all is answered alike."""
        for seed in range(25):
            caller, machine, model = self.grow(seed, BUSY, 24, 60)
            image = freeze(machine, ROOT)
            bare = Machine(state(machine)[1])
            thawed = play(bare, plan(image_in(moved(caller.random, image_text(image))), bare))
            # The first process of the machine has got nothing.
            self.assertIs(alike(machine, thawed), True)
            self.assertIsNone(parting(machine, thawed))
            for _ in range(60):
                number = caller.number(model)
                call = caller.call(model, number)
                answer = self.modelled(model, number, call)
                self.exact([made(machine, number, call), made(thawed, number, call)], [answer, answer])
            self.assertIs(alike(machine, thawed), True)
            thawed.do(1, ("set", 2, 123456))
            self.assertIs(shows_parting(machine, thawed, parting(machine, thawed)), True)


class Drawings(ThawCase):
    """Images at the bounds that were drawn, not grown."""

    def test_images(self):
        for seed in range(12):
            r = random.Random(seed)
            files = [("log", "abc"), ("b", "")]
            image = Drawn(r, 12, 20, files).image()
            again = image_in(moved(r, image_text(image)))
            self.exact(again, image)
            machine = crowded(r, numbers_of(image), files)
            found = self.thaws(again, machine, r, 1)
            self.assertIs(shows_plan(image, machine, found), True)
            self.assertIsNone(bar(again))
            self.assertEqual(helpers_of(image, found), sum(map(len, helpers(again))))
            with self.assertRaises(Barred) as caught:
                plan(image, play(machine, found))
            self.exact(caught.exception.reason, ("number", min(numbers_of(image) - {1})))
            self.exact(freeze(play(machine, found), root_of(image)), image)


class GivenUp(unittest.TestCase):
    """(f): once given, the old tree never runs again."""

    def test_given_for_good(self):
        giver = Giver()
        giver.freeze(["x"])
        giver.receive(("whole", 1))
        self.assertRaises(NotNow, giver.resume)
        self.assertRaises(NotNow, giver.freeze, ["x"])
        self.assertEqual(giver.phase(), "given")


if __name__ == "__main__":
    unittest.main()
