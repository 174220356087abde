"""[13] Giver, Taker and cut, and (f) of [1]."""

import copy
import random
import unittest

from tests.helper import Case
from treethaw.errors import NotNow
from treethaw.moving import Giver, Taker, cut

KINDS = ("whole", "going", "go")


class Cut(Case):
    def test_pieces(self):
        for text, size, wanted in [
                ("abcde", 3, ["abc", "de"]), ("abcdef", 3, ["abc", "def"]), ("abcdef", 2, ["ab", "cd", "ef"]),
                ("abc", 1, ["a", "b", "c"]), ("abc", 3, ["abc"]), ("abc", 4, ["abc"]), ("abc", 10 ** 12, ["abc"]),
                ("", 1, [""]), ("", 9, [""]), ("a", 1, ["a"]), ("a\nb ", 2, ["a\n", "b "])]:
            self.exact(cut(text, size), wanted)
            self.exact(cut(size=size, text=text), wanted)

    def test_joined_again(self):
        r = random.Random(4)
        for _ in range(200):
            text = "".join(r.choice('ab ,()"') for _ in range(r.randrange(60)))
            size = r.randint(1, 70)
            pieces = cut(text, size)
            self.assertEqual("".join(pieces), text)
            self.assertTrue(all(len(piece) == size for piece in pieces[:-1]))
            self.assertTrue(len(pieces) == 1 or 1 <= len(pieces[-1]) <= size)

    def test_new_lists(self):
        cut("abcd", 2).append("x")
        cut("", 2).append("x")
        self.exact((cut("abcd", 2), cut("", 2)), (["ab", "cd"], [""]))


class Giving(Case):
    def shows(self, giver, phase, messages):
        self.exact(giver.phase(), phase)
        self.exact(giver.messages(), messages)

    def not_now(self, function, word, *arguments):
        with self.assertRaises(NotNow) as caught:
            function(*arguments)
        self.exact(caught.exception.word, word)

    def strangers(self, giver, but=()):
        """All messages that must do nothing now."""
        phase, messages = giver.phase(), giver.messages()
        for turn in range(0, 5):
            for kind in KINDS:
                if (kind, turn) not in but:
                    self.assertIsNone(giver.receive((kind, turn)))
                    self.assertIsNone(giver.receive([kind, turn]))
                    self.shows(giver, phase, messages)
            giver.receive(("piece", turn, 0, 1, "x"))
            self.shows(giver, phase, messages)

    def test_all_phases(self):
        giver = Giver()
        self.shows(giver, "runs", [])
        self.strangers(giver)
        self.not_now(giver.resume, "runs")
        self.exact(giver.freeze(["ab", "c"]), 1)
        first = [("piece", 1, 0, 2, "ab"), ("piece", 1, 1, 2, "c")]
        self.shows(giver, "frozen", first)
        self.shows(giver, "frozen", first)
        self.strangers(giver, [("whole", 1)])
        self.not_now(giver.freeze, "frozen", ["x"])
        self.shows(giver, "frozen", first)
        self.assertIsNone(giver.resume())
        self.shows(giver, "runs", [])
        self.strangers(giver)
        self.not_now(giver.resume, "runs")
        self.exact(giver.freeze(("",)), 2)
        self.shows(giver, "frozen", [("piece", 2, 0, 1, "")])
        self.strangers(giver, [("whole", 2)])
        giver.resume()
        self.exact(giver.freeze(["z"]), 3)
        self.strangers(giver, [("whole", 3)])
        self.assertIsNone(giver.receive(("whole", 3)))
        self.shows(giver, "given", [("go", 3)])
        self.strangers(giver, [("going", 3)])
        self.not_now(giver.freeze, "given", ["x"])
        self.not_now(giver.resume, "given")
        self.shows(giver, "given", [("go", 3)])
        self.assertIsNone(giver.receive(("going", 3)))
        self.shows(giver, "given", [])
        self.strangers(giver)
        self.not_now(giver.freeze, "given", ["x"])
        self.not_now(giver.resume, "given")
        self.shows(giver, "given", [])

    def test_going_before_given(self):
        giver = Giver()
        giver.freeze(["a"])
        giver.receive(("going", 1))
        giver.receive(("whole", 1))
        self.shows(giver, "given", [("go", 1)])

    def test_lists_for_tuples_and_names(self):
        giver = Giver()
        self.exact(giver.freeze(pieces=("a", "b")), 1)
        self.shows(giver, "frozen", [("piece", 1, 0, 2, "a"), ("piece", 1, 1, 2, "b")])
        giver.receive(message=["whole", 1])
        self.shows(giver, "given", [("go", 1)])
        giver.receive(message=["going", 1])
        self.shows(giver, "given", [])

    def test_nothing_is_shared(self):
        giver, pieces = Giver(), ["a", "b"]
        giver.freeze(pieces)
        pieces[0] = "z"
        pieces.append("c")
        wanted = [("piece", 1, 0, 2, "a"), ("piece", 1, 1, 2, "b")]
        giver.messages().clear()
        self.shows(giver, "frozen", wanted)
        giver.receive(("whole", 1))
        giver.messages().append(("go", 9))
        self.shows(giver, "given", [("go", 1)])

    def test_two_givers(self):
        one, other = Giver(), Giver()
        one.freeze(["a"])
        self.shows(other, "runs", [])
        self.exact(other.freeze(["b"]), 1)


class Taking(Case):
    def shows(self, taker, messages, running=None):
        self.exact(taker.messages(), messages)
        self.exact(taker.running(), running)

    def gets(self, taker, *messages):
        for message in messages:
            self.assertIsNone(taker.receive(message))

    def strangers(self, taker, but=(), pieces=()):
        messages, running = taker.messages(), taker.running()
        for turn in range(0, 6):
            for kind in KINDS:
                if (kind, turn) not in but:
                    self.gets(taker, (kind, turn), [kind, turn])
                    self.shows(taker, messages, running)
        for turn in pieces:
            for index in (0, 1):
                self.gets(taker, ("piece", turn, index, 2, "late"))
                self.shows(taker, messages, running)

    def test_all_phases(self):
        taker = Taker()
        self.shows(taker, [])
        self.strangers(taker)
        self.gets(taker, ("piece", 2, 1, 3, "b"))
        self.shows(taker, [])
        self.strangers(taker, pieces=[1])
        self.gets(taker, ("piece", 2, 1, 3, "other"), ("piece", 2, 0, 3, "a"))
        self.shows(taker, [])
        self.gets(taker, ("piece", 2, 2, 3, "c"))
        self.shows(taker, [("whole", 2)])
        self.strangers(taker, [("go", 2)], pieces=[1, 2])
        self.gets(taker, ("piece", 4, 0, 2, "A"))
        self.shows(taker, [])
        self.strangers(taker, pieces=[1, 2, 3])
        self.gets(taker, ("piece", 4, 1, 2, "B"))
        self.shows(taker, [("whole", 4)])
        self.strangers(taker, [("go", 4)], pieces=[1, 2, 3, 4])
        self.gets(taker, ("go", 4))
        self.shows(taker, [("going", 4)], "AB")
        self.strangers(taker, pieces=[1, 2, 3, 4, 5, 6])
        self.shows(taker, [("going", 4)], "AB")

    def test_go_before_whole(self):
        taker = Taker()
        self.gets(taker, ("piece", 1, 0, 2, "a"), ("go", 1), ("piece", 1, 1, 2, "b"))
        self.shows(taker, [("whole", 1)])

    def test_one_piece(self):
        taker = Taker()
        self.gets(taker, ("piece", 7, 0, 1, ""))
        self.shows(taker, [("whole", 7)])
        self.gets(taker, ("go", 6), ("go", 8))
        self.shows(taker, [("whole", 7)])
        self.gets(taker, ("go", 7))
        self.shows(taker, [("going", 7)], "")

    def test_pieces_in_any_order(self):
        r = random.Random(1)
        for _ in range(50):
            pieces = [r.choice(["", "x", "yy", "z z"]) for _ in range(r.randint(1, 12))]
            messages = [("piece", 3, at, len(pieces), text) for at, text in enumerate(pieces)]
            taker = Taker()
            missing = set(messages)
            for message in r.sample(messages * 2, 2 * len(messages)):
                self.gets(taker, message)
                missing.discard(message)
                self.shows(taker, [] if missing else [("whole", 3)])
            self.gets(taker, ("go", 3))
            self.shows(taker, [("going", 3)], "".join(pieces))

    def test_pieces_of_another_try_are_not_mixed(self):
        taker = Taker()
        self.gets(taker, ("piece", 1, 0, 2, "a"), ("piece", 2, 1, 2, "B"))
        self.shows(taker, [])
        self.gets(taker, ("piece", 1, 0, 2, "a"), ("piece", 2, 0, 2, "A"), ("go", 1))
        self.shows(taker, [("whole", 2)])
        self.gets(taker, ("go", 2))
        self.shows(taker, [("going", 2)], "AB")

    def test_later_try_has_other_pieces(self):
        taker = Taker()
        self.gets(taker, ("piece", 1, 0, 3, "a"), ("piece", 1, 1, 3, "b"), ("piece", 2, 0, 1, "c"))
        self.shows(taker, [("whole", 2)])
        self.gets(taker, ("piece", 3, 2, 4, "d"))
        self.shows(taker, [])

    def test_lists_for_tuples_and_names(self):
        taker = Taker()
        taker.receive(message=["piece", 1, 0, 1, "a"])
        self.shows(taker, [("whole", 1)])
        taker.receive(message=["go", 1])
        self.shows(taker, [("going", 1)], "a")

    def test_nothing_is_shared(self):
        taker, message = Taker(), ["piece", 1, 0, 1, "a"]
        taker.receive(message)
        message[4] = "z"
        taker.messages().clear()
        self.shows(taker, [("whole", 1)])
        taker.receive(("go", 1))
        taker.messages().append(None)
        self.shows(taker, [("going", 1)], "a")


class Links(Case):
    """(f): over any link never both trees run, and nothing is lost."""

    def safe(self, giver, taker, tries):
        """tries are the pieces of each try, from 1 on."""
        given = giver.phase() == "given"
        if taker.running() is not None:
            self.assertTrue(given)
            self.assertEqual(taker.running(), "".join(tries[-1]))
        if given and taker.running() is None:
            self.assertEqual(taker.messages(), [("whole", len(tries))])
            later = copy.deepcopy(taker)
            later.receive(("go", len(tries)))
            self.assertEqual(later.running(), "".join(tries[-1]))

    def test_every_way(self):
        """All states that can be reached with three tries, each message that was ever sent coming at any time."""
        texts = [["a", "b"], ["c", "d", "e"], ["f", "g"]]
        waiting, known = [(Giver(), Taker(), 0, frozenset())], set()
        runs = 0
        while waiting:
            giver, taker, tries, sent = waiting.pop()
            sent = sent | {("t", *m) for m in giver.messages()} | {("g", *m) for m in taker.messages()}
            key = (repr(vars(giver)), repr(sorted(vars(taker).items(), key=str)), tries, sent)
            if key in known:
                continue
            known.add(key)
            self.safe(giver, taker, texts[:tries])
            runs += taker.running() is not None
            for to, *message in sent:
                left, right = copy.deepcopy(giver), copy.deepcopy(taker)
                (right if to == "t" else left).receive(tuple(message))
                waiting.append((left, right, tries, sent))
            left = copy.deepcopy(giver)
            if giver.phase() == "frozen":
                left.resume()
                waiting.append((left, copy.deepcopy(taker), tries, sent))
            elif giver.phase() == "runs" and tries < 3:
                self.assertEqual(left.freeze(texts[tries]), tries + 1)
                waiting.append((left, copy.deepcopy(taker), tries + 1, sent))
        self.assertGreater(len(known), 100)
        self.assertGreater(runs, 10)

    def test_drawn_links(self):
        whole = 0
        for seed in range(150):
            r = random.Random(seed)
            giver, taker, tries, link = Giver(), Taker(), [], []
            loss = r.choice([0.2, 0.5, 0.8])
            for _ in range(r.randrange(300)):
                if giver.phase() == "runs" and r.random() < 0.3:
                    tries.append(cut("".join(r.choice("abc") for _ in range(r.randrange(12))), r.randint(1, 4)))
                    self.assertEqual(giver.freeze(tries[-1]), len(tries))
                elif giver.phase() == "frozen" and r.random() < 0.03:
                    giver.resume()
                link += [(taker, m) for m in giver.messages() if r.random() > loss]
                link += [(giver, m) for m in taker.messages() if r.random() > loss]
                for _ in range(r.randrange(4)):
                    if link:
                        at = r.randrange(len(link))
                        to, message = link[at]
                        to.receive(message)
                        # A message may stay on the link, to come once more.
                        if r.random() < 0.7:
                            del link[at]
                        self.safe(giver, taker, tries)
            whole += taker.running() is not None
        self.assertGreater(whole, 40)

    def test_good_link(self):
        giver, taker = Giver(), Taker()
        giver.freeze(cut("some text", 2))
        for _ in range(3):
            for message in giver.messages():
                taker.receive(message)
            for message in taker.messages():
                giver.receive(message)
        self.exact((giver.phase(), giver.messages(), taker.running()), ("given", [], "some text"))


if __name__ == "__main__":
    unittest.main()
