"""What the tests share: a case that makes calls and compares results to the letter."""

import unittest

NONE = ("told", None)
WAITS = ("waits",)
WOKEN = ("woken",)


def told(value):
    return ("told", value)


def refused(word):
    return ("refused", word)


class Case(unittest.TestCase):
    def exact(self, found, wanted):
        """Equal, and of the same kinds throughout: repr tells 1 from True and () from []."""
        self.assertEqual(found, wanted)
        self.assertEqual(repr(found), repr(wanted))

    def calls(self, machine, rows):
        """Each row is (number, call, answer) or (number, call, answer, others)."""
        for at, (number, call, answer, *rest) in enumerate(rows):
            with self.subTest(step=at, number=number, call=call):
                self.exact(machine.do(number, call), (answer, rest[0] if rest else []))

    def setup_calls(self, machine, rows):
        """Pairs (number, call) that must be told or wait, and answer nobody else."""
        for number, call in rows:
            answer, others = machine.do(number, call)
            self.assertIn(answer[0], ("told", "waits"), (number, call, answer))
            self.assertEqual(others, [], (number, call))
        return machine

    def refuses(self, machine, number, call, word):
        """The call is refused with this word, and nothing changes by it."""
        before = repr(everything(machine))
        self.exact(machine.do(number, call), (("refused", word), []))
        self.assertEqual(repr(everything(machine)), before)


def everything(machine):
    """All that calls tell without changing anything, as twins are asked for it."""
    seen = []
    for number in machine.numbers():
        seen.append((number, machine.twin().do(1, ("about", number))))
        for call in [("handles",)] + [("get", cell) for cell in range(4)]:
            seen.append(asked(machine, number, call))
        for handle in asked(machine, number, ("handles",)) or ():
            for cell in range(4):
                seen.append(asked(machine, number, ("peek", handle, cell)))
            seen.append(asked(machine, number, ("read", handle, 99)))
            seen.append(asked(machine, number, ("take", handle)))
            seen.append(asked(machine, number, ("write", handle, "z")))
    return seen


def asked(machine, number, call):
    """What a twin tells this process, woken and started if need be; None if it has ended."""
    twin = machine.twin()
    if twin.do(1, ("about", number))[0][1][2] == "ended":
        return None
    if number != 1:
        twin.do(1, ("send", "wake", number))
        twin.do(1, ("send", "go", number))
    answer = twin.do(number, call)[0]
    return answer[1] if call == ("handles",) else answer


ZEROS = (0, 0, 0, 0)


def row(number, parent=None, session=1, group=None, adopts=False, word="runs", code=None, call=None, cells=None,
        handles=()):
    """A process of an image: one that runs, or has ended if it has a code."""
    if code is not None:
        word = "ended"
    if cells is None:
        cells = () if word == "ended" else ZEROS
    return number, parent, session, session if group is None else group, adopts, word, code, call, cells, handles


def image(*processes, things=(), pipes=(), pairs=(), areas=(), files=()):
    return processes, things, pipes, pairs, areas, files


def listed(value):
    """Lists in the place of all tuples."""
    return [listed(item) for item in value] if isinstance(value, (list, tuple)) else value


def places(value, at=()):
    """Where the parts of a nested value stand, the value itself first."""
    found = [at]
    if isinstance(value, (list, tuple)):
        for turn, item in enumerate(value):
            found += places(item, (*at, turn))
    return found


def part(value, at):
    """What stands at a place."""
    for turn in at:
        value = value[turn]
    return value


def put(value, at, new):
    """The value with another one at a place; tuples stay tuples."""
    if not at:
        return new
    items = list(value)
    items[at[0]] = put(items[at[0]], at[1:], new)
    return type(value)(items)
