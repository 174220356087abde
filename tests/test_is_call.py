"""[4] is_call."""

import unittest

from treethaw.machine import is_call

RIGHT = [
    ("fork", 7), ("lead",), ("adopt",), ("join", 5, 6), ("end", 3), ("wait", 4), ("send", "stop", 2),
    ("sendall", "go", 3), ("about", 1), ("get", 0), ("set", 3, 44), ("make", "log", "abc"), ("remove", "log"),
    ("open", "log"), ("seek", 0, 1), ("pipe",), ("pair",), ("area",), ("copy", 0, 4), ("close", 0),
    ("handles",), ("same", 0, 5, 1), ("peek", 0, 2), ("poke", 0, 2, 9), ("read", 0, 5), ("write", 0, "text"),
    ("pass", 0, 1), ("take", 0),
]

# The argument of each call by its kind: c from 1, n from 0, a any number, k kind, p path, t text, w text of write.
KINDS = {
    "fork": "c", "lead": "", "adopt": "", "join": "nn", "end": "a", "wait": "n", "send": "kn", "sendall": "kn",
    "about": "n", "get": "n", "set": "na", "make": "pt", "remove": "p", "open": "p", "seek": "nn", "pipe": "",
    "pair": "", "area": "", "copy": "nn", "close": "n", "handles": "", "same": "nnn", "peek": "nn", "poke": "nna",
    "read": "nc", "write": "nw", "pass": "nn", "take": "n",
}

GOOD = {
    "c": [1, 2, 199, 200, 10 ** 15],
    "n": [0, 1, 4, 199, 200, 10 ** 15],
    "a": [0, 1, -1, -10 ** 15, 10 ** 15],
    "k": ["stop", "go", "end", "wake"],
    "p": ["a", "z", "log", "abcdefgh", "abcdefghijklmnopqrstuvwxyz"],
    "t": ["", " ", "a", "A b", "~" * 60, "a\nb", "\u00e9"],
    "w": [" ", "a", "A b", "~" * 60, "a\nb", "\u00e9"],
}

NEVER = [True, False, None, (), [], (1,), [1], ("a",), ["a"], [[["a"]]]]
WORDS = ["", "a", "stop", "1", "0"]
NUMBERS = [0, 1, 2, -1]
BAD = {
    "c": NEVER + WORDS + [0, -1],
    "n": NEVER + WORDS + [-1],
    "a": NEVER + WORDS,
    "k": NEVER + NUMBERS + ["", "Stop", "stop ", "kill", "STOP", "o", "stopgo"],
    "p": NEVER + NUMBERS + ["", "A", "a1", "a b", "a.b", "a_b", "aB", " ", "a\n", "\n", "`", "{", "\u00e9", "a/b"],
    "t": NEVER + NUMBERS,
    "w": NEVER + NUMBERS + [""],
}


class IsCall(unittest.TestCase):
    def accepts(self, thing):
        with self.subTest(thing=thing):
            self.assertIs(is_call(thing), True)

    def rejects(self, thing):
        with self.subTest(thing=thing):
            self.assertIs(is_call(thing), False)

    def test_each_name(self):
        self.assertEqual([call[0] for call in RIGHT], list(KINDS))
        for call in RIGHT:
            self.accepts(call)

    def test_one_more_and_one_less(self):
        for call in RIGHT:
            for more in (0, 1, "a", None, ()):
                self.rejects(call + (more,))
            self.rejects(call[:-1])

    def test_arguments_at_their_limits(self):
        for call in RIGHT:
            for at, kind in enumerate(KINDS[call[0]], start=1):
                for value in GOOD[kind]:
                    self.accepts(call[:at] + (value,) + call[at + 1:])

    def test_arguments_of_another_kind(self):
        for call in RIGHT:
            for at, kind in enumerate(KINDS[call[0]], start=1):
                for value in BAD[kind]:
                    self.rejects(call[:at] + (value,) + call[at + 1:])

    def test_lists(self):
        for call in RIGHT:
            self.rejects(list(call))
            self.rejects((call,))
            self.rejects([call])
            self.rejects((list(call),))
            self.rejects((call[0], call[1:]))
            self.rejects((call[0], list(call[1:])))

    def test_no_tuples(self):
        for thing in (None, True, False, 0, 1, -5, "", "lead", "fork 7", [], ["lead"], (), [[]], [[[["lead"]]]]):
            self.rejects(thing)

    def test_names(self):
        for name in (None, True, 0, 1, "", "Lead", "lead ", "leads", "do", "kill", "__init__", ("lead",), ["lead"],
                     [], ()):
            self.rejects((name,))
            self.rejects((name, 1))
            self.rejects((name, 1, 1))

    def test_deep_nesting(self):
        thing = "lead"
        for _ in range(9):
            thing = [thing]
        self.rejects(thing)
        self.rejects((thing,))
        self.rejects(("fork", thing))

    def test_by_name(self):
        self.assertIs(is_call(thing=("lead",)), True)


if __name__ == "__main__":
    unittest.main()
