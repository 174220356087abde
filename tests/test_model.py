"""[4] to [8]: machines agree, call for call, with a second one written from the document alone.

The Model keeps nothing that can be worked out: one list of all waiting calls in
the order in which they were made, things as Python objects, and what is held is
found anew by the smallest-collection rule whenever it is asked for. Of several
waiting calls that the document allows to be answered next, it picks any one.
"""

import copy
import random
import unittest

from treethaw.errors import NotRunning
from treethaw.machine import Machine, is_call

MOST, ROOM, LETTERS, CELLS = 199, 8, 4, 4


class Thing:
    def __init__(self, kind, **parts):
        self.kind = kind
        self.__dict__.update(parts)


class Refused(Exception):
    pass


def need(condition, word):
    if not condition:
        raise Refused(word)


class Model:
    def __init__(self, files=(), chooser=None):
        self.processes = {1: dict(parent=None, session=1, group=1, adopts=True, stopped=False, code=None,
                                  call=None, cells=[0] * CELLS, handles={})}
        self.paths = {path: Thing("content", text=text) for path, text in files}
        self.queue = []
        self.chooser = chooser

    def twin(self):
        chooser, self.chooser = self.chooser, None
        other = copy.deepcopy(self)
        self.chooser = other.chooser = chooser
        return other

    def numbers(self):
        return sorted(self.processes)

    def running(self, number):
        p = self.processes.get(number)
        return p is not None and p["code"] is None and p["call"] is None and not p["stopped"]

    def do(self, number, call):
        self.answers = {}
        try:
            answer = getattr(self, "call_" + call[0])(number, *call[1:])
        except Refused as word:
            answer = ("refused", str(word))
        self.settle()
        return answer, sorted(self.answers.items())

    # what is held

    def held(self):
        found = [t for p in self.processes.values() if p["code"] is None for t in p["handles"].values()]
        grown = True
        while grown:
            grown = False
            for t in list(found):
                for letter in (t.letters if t.kind == "side" else []):
                    if isinstance(letter, Thing) and not any(letter is f for f in found):
                        found.append(letter)
                        grown = True
        return found

    def is_held(self, thing):
        return any(thing is t for t in self.held())

    # families

    def below(self, number):
        return [n for n in self.numbers() if self.processes[n]["parent"] == number]

    def alive(self, number):
        return number in self.processes and self.processes[number]["code"] is None

    def call_fork(self, me, new):
        p = self.processes
        used = {x for n in p for x in (n, p[n]["session"], p[n]["group"])}
        need(new <= MOST and new not in used, "taken")
        p[new] = dict(p[me], parent=me, adopts=False, cells=list(p[me]["cells"]), handles=dict(p[me]["handles"]))
        return "told", new

    def call_lead(self, me):
        need(not self.below(me), "children")
        need(me not in [p["group"] for p in self.processes.values()], "group")
        self.processes[me].update(session=me, group=me)
        return "told", None

    def call_adopt(self, me):
        need(not self.below(me), "children")
        self.processes[me]["adopts"] = True
        return "told", None

    def call_join(self, me, who, group):
        p = self.processes
        need(who == me or (who in self.below(me) and p[who]["code"] is None), "no child")
        need(p[who]["session"] == p[me]["session"], "no child")
        need(p[who]["session"] != who, "leads")
        own = [n for n in p if p[n]["session"] == p[me]["session"]]
        need(group in own or group in [p[n]["group"] for n in own], "no group")
        p[who]["group"] = group
        return "told", None

    def finish(self, who, code):
        p = self.processes[who]
        above = p["parent"]
        while not (self.processes[above]["adopts"] and self.processes[above]["code"] is None):
            above = self.processes[above]["parent"]
        for n in self.below(who):
            self.processes[n]["parent"] = above
        p.update(code=code, call=None, handles={}, cells=[])
        self.queue = [n for n in self.queue if n != who]

    def call_end(self, me, code):
        need(me != 1, "first")
        self.finish(me, code)
        return "told", None

    def call_wait(self, me, who):
        need(self.below(me) and who in [0] + self.below(me), "no child")
        return self.start(me, ("wait", who))

    def signal(self, kind, who):
        p = self.processes[who]
        if kind in ("stop", "go"):
            p["stopped"] = kind == "stop"
        elif kind == "end":
            self.finish(who, -1)
        elif p["call"] is not None:
            self.answer(who, ("woken",))

    def call_send(self, me, kind, who):
        need(self.alive(who), "no process")
        need(who != 1, "first")
        self.signal(kind, who)
        return "told", None

    def call_sendall(self, me, kind, group):
        those = [n for n in self.numbers() if n != 1 and self.alive(n) and self.processes[n]["group"] == group]
        need(those, "no group")
        for n in those:
            self.signal(kind, n)
            self.settle()
        return "told", len(those)

    def call_about(self, me, who):
        need(who in self.processes, "no process")
        p = self.processes[who]
        word = "ended" if p["code"] is not None else "stopped" if p["stopped"] else "waits" if p["call"] else "runs"
        place = self.row(self.key(who, p["call"])).index(who) if p["call"] else None
        return "told", (p["session"], p["group"], word, place, p["call"])

    # things

    def thing(self, me, handle):
        need(handle in self.processes[me]["handles"], "no handle")
        return self.processes[me]["handles"][handle]

    def grant(self, me, thing):
        handles = self.processes[me]["handles"]
        new = min(n for n in range(len(handles) + 1) if n not in handles)
        handles[new] = thing
        return new

    def call_get(self, me, cell):
        need(cell < CELLS, "place")
        return "told", self.processes[me]["cells"][cell]

    def call_set(self, me, cell, value):
        need(cell < CELLS, "place")
        self.processes[me]["cells"][cell] = value
        return "told", None

    def call_make(self, me, path, text):
        need(path not in self.paths, "taken")
        self.paths[path] = Thing("content", text=text)
        return "told", None

    def call_remove(self, me, path):
        need(path in self.paths, "no path")
        del self.paths[path]
        return "told", None

    def call_open(self, me, path):
        need(path in self.paths, "no path")
        return "told", self.grant(me, Thing("file", file=self.paths[path], place=0))

    def call_seek(self, me, handle, place):
        t = self.thing(me, handle)
        need(t.kind == "file", "kind")
        need(place <= len(t.file.text), "place")
        t.place = place
        return "told", None

    def call_pipe(self, me):
        pipe = Thing("pipe", text="")
        pipe.ends = Thing("reads", pipe=pipe), Thing("writes", pipe=pipe)
        return "told", (self.grant(me, pipe.ends[0]), self.grant(me, pipe.ends[1]))

    def call_pair(self, me):
        one, two = Thing("side", letters=[]), Thing("side", letters=[])
        one.other, two.other = two, one
        return "told", (self.grant(me, one), self.grant(me, two))

    def call_area(self, me):
        return "told", self.grant(me, Thing("area", cells=[0] * CELLS))

    def call_copy(self, me, handle, to):
        self.processes[me]["handles"][to] = self.thing(me, handle)
        return "told", to

    def call_close(self, me, handle):
        self.thing(me, handle)
        del self.processes[me]["handles"][handle]
        return "told", None

    def call_handles(self, me):
        return "told", tuple(sorted(self.processes[me]["handles"]))

    def call_same(self, me, handle, who, other):
        mine = self.thing(me, handle)
        need(self.alive(who), "no process")
        return "told", mine is self.thing(who, other)

    def call_peek(self, me, handle, cell, value=None):
        t = self.thing(me, handle)
        need(t.kind == "area", "kind")
        need(cell < CELLS, "place")
        if value is None:
            return "told", t.cells[cell]
        t.cells[cell] = value
        return "told", None

    call_poke = call_peek

    def call_read(self, me, handle, many):
        t = self.thing(me, handle)
        need(t.kind not in ("writes", "area"), "kind")
        if t.kind != "file":
            return self.start(me, ("read", handle, many))
        got = t.file.text[t.place:][:many]
        t.place += len(got)
        return "told", got

    def call_write(self, me, handle, text):
        t = self.thing(me, handle)
        need(t.kind not in ("reads", "area"), "kind")
        if t.kind == "file":
            whole = list(t.file.text)
            whole[t.place:t.place + len(text)] = text
            t.file.text = "".join(whole)
            t.place += len(text)
            return "told", len(text)
        need(len(text) <= ROOM, "long")
        need(self.is_held(t.pipe.ends[0] if t.kind == "writes" else t.other), "alone")
        return self.start(me, ("write", handle, text))

    def call_pass(self, me, handle, what):
        t = self.thing(me, handle)
        need(t.kind == "side", "kind")
        self.thing(me, what)
        need(self.is_held(t.other), "alone")
        return self.start(me, ("pass", handle, what))

    def call_take(self, me, handle):
        need(self.thing(me, handle).kind == "side", "kind")
        return self.start(me, ("take", handle))

    # waiting

    def key(self, who, call):
        if call[0] == "wait":
            return ("wait", who)
        t = self.thing(who, call[1])
        # What calls take out of and put into is one object, so that takes can go first.
        if call[0] in ("read", "take"):
            return ("out", id(t.pipe if t.kind == "reads" else t))
        return ("into", id(t.pipe if t.kind == "writes" else t.other))

    def row(self, key):
        return [n for n in self.queue if self.key(n, self.processes[n]["call"]) == key]

    def heads(self):
        heads = {}
        for n in self.queue:
            if not self.processes[n]["stopped"]:
                heads.setdefault(self.key(n, self.processes[n]["call"]), n)
        return heads

    def outcome(self, who, call):
        """None, or the pair of the answer and of what to do then."""
        if call[0] == "wait":
            ended = [n for n in self.below(who) if self.processes[n]["code"] is not None and call[1] in (0, n)]
            if not ended:
                return None
            return ("told", (ended[0], self.processes[ended[0]]["code"])), lambda: self.processes.pop(ended[0])
        t = self.thing(who, call[1])
        if t.kind == "reads":
            if t.pipe.text == "" and self.is_held(t.pipe.ends[1]):
                return None
            many = call[2]
            return ("told", t.pipe.text[:many]), lambda: setattr(t.pipe, "text", t.pipe.text[many:])
        if t.kind == "writes":
            if not self.is_held(t.pipe.ends[0]):
                return ("refused", "alone"), lambda: None
            if len(t.pipe.text + call[2]) > ROOM:
                return None
            return ("told", len(call[2])), lambda: setattr(t.pipe, "text", t.pipe.text + call[2])
        if call[0] in ("write", "pass"):
            if not self.is_held(t.other):
                return ("refused", "alone"), lambda: None
            if len(t.other.letters) == LETTERS:
                return None
            letter = call[2] if call[0] == "write" else self.thing(who, call[2])
            return ("told", len(letter) if call[0] == "write" else None), lambda: t.other.letters.append(letter)
        if not t.letters:
            if self.is_held(t.other):
                return None
            return ("told", "" if call[0] == "read" else None), lambda: None
        if isinstance(t.letters[0], str) != (call[0] == "read"):
            return ("refused", "letter"), lambda: None
        if call[0] == "read":
            return ("told", t.letters[0]), lambda: t.letters.pop(0)
        handles = self.processes[who]["handles"]
        new = min(n for n in range(len(handles) + 1) if n not in handles)
        return ("told", new), lambda: self.grant(who, t.letters.pop(0))

    def start(self, me, call):
        if self.key(me, call) not in self.heads():
            result = self.outcome(me, call)
            if result is not None:
                result[1]()
                return result[0]
        need(me != 1, "first")
        self.processes[me]["call"] = call
        self.queue.append(me)
        return ("waits",)

    def answer(self, who, answer):
        self.processes[who]["call"] = None
        self.queue.remove(who)
        self.answers[who] = answer

    def settle(self):
        while True:
            ready = {}
            for key, who in self.heads().items():
                result = self.outcome(who, self.processes[who]["call"])
                if result is not None:
                    ready[key] = who, result
            allowed = [key for key in ready if key[0] != "into" or ("out", key[1]) not in ready]
            if not allowed:
                return
            who, (answer, effect) = ready[self.chooser(allowed) if self.chooser else allowed[0]]
            effect()
            self.answer(who, answer)


FILES = [("log", "abc"), ("a", "")]

# How often which call is tried: all of them, mostly letters, mostly pipes, mostly families.
EVEN = dict(fork=6, lead=1, adopt=1, join=2, end=1, wait=3, send=5, sendall=1, about=1, get=1, set=1, make=1, remove=1,
            open=2, seek=1, pipe=2, pair=3, area=1, copy=2, close=5, handles=1, same=2, peek=1, poke=1, read=10,
            write=10, take=8)
EVEN["pass"] = 10
LETTERS_MOST = dict(EVEN, fork=3, pair=2, pipe=1, close=4, read=20, write=18, take=20, send=12, sendall=2)
LETTERS_MOST["pass"] = 18
PIPES_MOST = dict(EVEN, fork=3, pipe=1, pair=0, area=0, open=0, copy=1, close=2, read=25, write=40, send=20, sendall=4)
FAMILIES_MOST = dict(EVEN, fork=20, lead=4, adopt=4, join=8, end=4, wait=25, send=12, sendall=3, read=3, write=3)


class Caller:
    """Picks calls that have a chance to be told, and some that have none."""

    def __init__(self, seed, weights, most_handles):
        self.random = random.Random(seed)
        self.names = list(weights)
        self.weights = list(weights.values())
        self.most_handles = most_handles

    def beginning(self):
        """Things that several processes share from their births on, each perhaps but for one of them."""
        things = self.random.choices(["pipe", "pair"], [self.weights[self.names.index(at)] for at in ("pipe", "pair")],
                                     k=self.random.choice([1, 2]))
        born = (6, 3, 8, 2, 5)
        closes = [(number, ("close", self.random.randrange(3))) for number in (1, *born)]
        return [(1, (thing,)) for thing in things] + [(1, ("fork", number)) for number in born] + closes

    def number(self, model):
        running = [at for at in model.numbers() if model.running(at)]
        if self.random.random() < 0.03:
            return self.random.choice(model.numbers() + [77])
        if len(running) > 1 and self.random.random() < 0.7:
            return self.random.choice(running[1:])
        return self.random.choice(running)

    def call(self, model, number):
        pick = self.random.choice
        handles = sorted(model.processes[number]["handles"]) if number in model.processes else []
        handle = lambda: pick(handles) if handles and self.random.random() < 0.95 else self.random.randrange(9)
        anyone = lambda: pick([0, 77, 200] + 4 * model.numbers())
        name = self.random.choices(self.names, self.weights)[0]
        if name in ("pipe", "pair", "area", "open") and len(handles) >= self.most_handles:
            name = "close"
        values = {
            "new": lambda: pick([1, 2, 3, 4, 5, 6, 7, 8, 9, 10, 11, 199, 200]), "who": anyone, "group": anyone,
            "code": lambda: self.random.randrange(-2, 9),
            "kind": lambda: pick(["stop", "go"] * 4 + ["wake"] * 2 + ["end"]),
            "cell": lambda: self.random.randrange(5), "value": lambda: self.random.randrange(-9, 99),
            "path": lambda: pick(["log", "a", "b"]), "text": lambda: pick("abcdefgh") * pick([1, 1, 2, 3, 5, 8, 8, 9]),
            "handle": handle, "place": lambda: self.random.randrange(6), "to": lambda: pick([handle(), 3, 12]),
            "many": lambda: pick([1, 2, 3, 8, 9]),
        }
        return (name, *[values[kind]() for kind in ARGUMENTS[name]])


ARGUMENTS = {name: words.split() for name, words in {
    "fork": "new", "lead": "", "adopt": "", "join": "who group", "end": "code", "wait": "who", "send": "kind who",
    "sendall": "kind group", "about": "who", "get": "cell", "set": "cell value", "make": "path text", "remove": "path",
    "open": "path", "seek": "handle place", "pipe": "", "pair": "", "area": "", "copy": "handle to", "close": "handle",
    "handles": "", "same": "handle who handle", "peek": "handle cell", "poke": "handle cell value",
    "read": "handle many", "write": "handle text", "pass": "handle handle", "take": "handle"}.items()}


class Agreement(unittest.TestCase):
    def compare(self, seed, weights, most_handles, steps):
        caller = Caller(seed, weights, most_handles)
        machine, model = Machine(FILES), Model(FILES, caller.random.choice)
        for number, call in caller.beginning():
            self.assertEqual(machine.do(number, call), model.do(number, call))
        for at in range(steps):
            number = caller.number(model)
            call = caller.call(model, number)
            self.assertTrue(is_call(call), call)
            if at % 10 == 9:
                machine = self.apart(machine, model, caller)
            if not model.running(number):
                self.assertRaises(NotRunning, machine.do, number, call)
                continue
            told, wanted = machine.do(number, call), model.do(number, call)
            self.assertEqual(repr(told), repr(wanted), (seed, at, number, call))
            self.assertEqual(machine.numbers(), model.numbers())
            for who in model.numbers():
                self.assertEqual(machine.do(1, ("about", who)), model.do(1, ("about", who)), (seed, at, number, call))

    def apart(self, machine, model, caller):
        """A twin to go on with, while the elder machine goes another way."""
        twin = machine.twin()
        for _ in range(4):
            number = caller.random.choice(machine.numbers())
            try:
                machine.do(number, caller.call(model, number))
            except NotRunning:
                pass
        return twin

    def test_all_calls(self):
        for seed in range(60):
            self.compare(seed, EVEN, 8, 120)

    def test_letters(self):
        for seed in range(60):
            self.compare(seed, LETTERS_MOST, 4, 120)

    def test_pipes(self):
        for seed in range(60):
            self.compare(seed, PIPES_MOST, 3, 120)

    def test_families(self):
        for seed in range(60):
            self.compare(seed, FAMILIES_MOST, 3, 120)


if __name__ == "__main__":
    unittest.main()
