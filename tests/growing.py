"""Trees that drawn calls grow, for tests that thaw them and go on with drawn calls."""

from tests.helper import Case
from tests.test_model import FILES, Caller, Model
from treethaw.errors import NotRunning
from treethaw.images import freeze, state
from treethaw.machine import Machine

ROOT = 2


def made(machine, number, call):
    try:
        return machine.do(number, call)
    except NotRunning:
        return "not running"


def tree(machine, root):
    return [row[0] for row in freeze(machine, root)[0]]


def taken(machine):
    return {n for row in state(machine)[0][0] for n in (row[0], row[2], row[3])}


def outer_groups(machine, root):
    own = tree(machine, root)
    return {row[3] for row in state(machine)[0][0] if row[0] not in own}


def within(twin, thawed, root, call):
    """Whether a call can tell nothing of other processes and files than those of the tree."""
    own = tree(twin, root)
    if call[0] == "fork":
        return call[1] not in taken(twin) | taken(thawed)
    if call[0] == "open":
        return len({dict(state(machine)[1]).get(call[1]) for machine in (twin, thawed)}) == 1
    if call[0] in ("about", "wait"):
        return call[1] in [0, *own]
    if call[0] in ("send", "sendall", "join", "same"):
        return call[2] in own and call[1] != "end" and (
            call[0] != "sendall" or call[2] not in outer_groups(twin, root) | outer_groups(thawed, root))
    return call[0] not in ("end", "make", "remove")


class Grown(Case):
    """A tree of process 2 that drawn calls grow; the first process only sends to it, so that it shares nothing."""

    def beginning(self, caller):
        calls = [(1, ("fork", ROOT))]
        for name in caller.random.choices(["pair", "pipe", "lead", "adopt"], k=3):
            calls.append((ROOT, (name,)))
        return calls + [(ROOT, ("fork", n)) for n in (6, 3, 8)]

    def grow(self, seed, weights, most_handles, steps):
        caller = Caller(seed, weights, most_handles)
        machine, model = Machine(FILES), Model(FILES)
        for number, call in self.beginning(caller):
            self.assertEqual(made(machine, number, call), self.modelled(model, number, call))
        for _ in range(steps):
            number = caller.number(model)
            call = caller.call(model, number)
            if number == 1:
                kind = caller.random.choice(["stop", "go", "go", "wake"])
                call = ("send", kind, caller.random.choice(model.numbers()))
            if call[0] in ("end", "send", "sendall") and self.ends_root(model, number, call):
                continue
            self.assertEqual(made(machine, number, call), self.modelled(model, number, call))
        # Those that got out of the tree when their parents ended.
        while [n for n in model.below(1) if n != ROOT]:
            number = [n for n in model.below(1) if n != ROOT][0]
            for call in [("send", "end", number), ("wait", number)]:
                self.assertEqual(made(machine, 1, call), self.modelled(model, 1, call))
        return caller, machine, model

    def ends_root(self, model, number, call):
        if call[0] == "end":
            return number == ROOT
        if call[1] != "end":
            return False
        return call[2] == (ROOT if call[0] == "send" else model.processes[ROOT]["group"])

    def modelled(self, model, number, call):
        return model.do(number, call) if model.running(number) else "not running"

    def goes_on(self, caller, model, twin, thawed, root, many):
        """Two machines that have the same tree answer drawn calls within it alike; returns how many there were."""
        seen = 0
        for _ in range(many):
            number = caller.random.choice(tree(twin, root))
            call = caller.call(model, number)
            if caller.random.random() < 0.1:
                call = ("fork", caller.random.randrange(30, 199))
            if not within(twin, thawed, root, call):
                continue
            self.exact(made(thawed, number, call), made(twin, number, call))
            self.exact(freeze(thawed, root), freeze(twin, root))
            seen += 1
        return seen
