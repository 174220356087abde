"""[2] the general rules and [4] machines."""

import unittest

from tests.helper import NONE, WAITS, Case, everything, refused, told
from treethaw.errors import NotRunning
from treethaw.machine import Machine


def busy():
    """A machine with some of everything, and with processes in all four conditions."""
    m = Machine([("log", "abc")])
    for number, call in [
            (1, ("fork", 2)), (2, ("open", "log")), (2, ("pipe",)), (2, ("pair",)), (2, ("area",)),
            (2, ("write", 3, "one")), (2, ("pass", 3, 5)), (2, ("pass", 4, 3)), (2, ("fork", 3)),
            (2, ("fork", 4)), (2, ("fork", 5)), (3, ("read", 1, 2)), (4, ("end", 9)), (1, ("send", "stop", 5)),
            (2, ("set", 1, 7)), (2, ("poke", 5, 2, 8)), (1, ("make", "a", "")), (1, ("pair",))]:
        assert m.do(number, call)[0][0] in ("told", "waits"), (number, call)
    return m


class Running(Case):
    def stays_out(self, machine, number):
        before = repr(everything(machine))
        for call in [("lead",), ("about", 1), ("fork", 90), ("close", 77), ("send", "go", number)]:
            with self.subTest(number=number, call=call), self.assertRaises(NotRunning) as caught:
                machine.do(number, call)
            self.exact(caught.exception.number, number)
        self.assertEqual(repr(everything(machine)), before)

    def test_no_process(self):
        for number in (0, -1, 6, 199, 200, 10 ** 12):
            self.stays_out(busy(), number)

    def test_ended(self):
        self.stays_out(busy(), 4)

    def test_waits(self):
        self.stays_out(busy(), 3)

    def test_stopped(self):
        self.stays_out(busy(), 5)

    def test_stopped_and_waiting(self):
        m = busy()
        self.calls(m, [(1, ("send", "stop", 3), NONE)])
        self.stays_out(m, 3)
        self.calls(m, [(1, ("send", "wake", 3), NONE, [(3, ("woken",))])])
        self.stays_out(m, 3)
        self.calls(m, [(1, ("send", "go", 3), NONE), (3, ("lead",), NONE)])

    def test_waited_for(self):
        m = busy()
        self.calls(m, [(2, ("wait", 0), told((4, 9)))])
        self.stays_out(m, 4)
        self.exact(m.numbers(), [1, 2, 3, 5])

    def test_stopped_by_itself(self):
        m = Machine()
        self.calls(m, [(1, ("fork", 2), told(2)), (2, ("send", "stop", 2), NONE)])
        self.stays_out(m, 2)

    def test_first_always_runs(self):
        m = Machine()
        self.calls(m, [
            (1, ("end", 0), refused("first")), (1, ("send", "stop", 1), refused("first")),
            (1, ("send", "end", 1), refused("first")), (1, ("pipe",), told((0, 1))),
            (1, ("read", 0, 1), refused("first")), (1, ("about", 1), told((1, 1, "runs", None, None)))])


class Numbers(Case):
    def test_numbers(self):
        m = Machine()
        self.exact(m.numbers(), [1])
        self.setup_calls(m, [(1, ("fork", 30)), (30, ("fork", 2)), (1, ("fork", 199)), (30, ("end", 0))])
        self.exact(m.numbers(), [1, 2, 30, 199])
        self.setup_calls(m, [(1, ("wait", 30))])
        self.exact(m.numbers(), [1, 2, 199])

    def test_new_lists(self):
        m = busy()
        m.numbers().append(77)
        self.exact(m.numbers(), [1, 2, 3, 4, 5])
        others = m.do(1, ("send", "wake", 3))[1]
        self.exact(others, [(3, ("woken",))])
        others.append(5)
        again = m.do(1, ("lead",))[1]
        self.exact(again, [])
        again.append(5)
        self.exact(m.do(1, ("lead",))[1], [])


class Arguments(Case):
    def test_files_in_lists_and_tuples(self):
        for files in ([("log", "abc"), ("b", "")], (("log", "abc"), ("b", "")), [["log", "abc"], ["b", ""]],
                      (["log", "abc"], ("b", ""))):
            m = Machine(files)
            self.calls(m, [(1, ("open", "log"), told(0)), (1, ("read", 0, 9), told("abc")),
                           (1, ("open", "b"), told(1)), (1, ("read", 1, 9), told(""))])

    def test_no_files(self):
        for m in (Machine(), Machine([]), Machine(()), Machine(files=())):
            self.calls(m, [(1, ("open", "log"), refused("no path")), (1, ("handles",), told(()))])

    def test_by_name(self):
        m = Machine(files=[("log", "abc")])
        self.exact(m.do(number=1, call=("open", "log")), (("told", 0), []))
        self.exact(m.do(call=("read", 0, 2), number=1), (("told", "ab"), []))

    def test_files_are_copied_and_not_changed(self):
        files = [["log", "abc"], ["b", "xy"]]
        m = Machine(files)
        self.calls(m, [(1, ("open", "log"), told(0)), (1, ("write", 0, "Z"), told(1)), (1, ("remove", "b"), NONE)])
        self.exact(files, [["log", "abc"], ["b", "xy"]])
        files[0][1] = "other"
        files.clear()
        self.calls(m, [(1, ("seek", 0, 0), NONE), (1, ("read", 0, 9), told("Zbc"))])

    def test_calls_as_lists(self):
        m = Machine()
        self.calls(m, [(1, ["fork", 2], told(2)), (1, ["pipe"], told((0, 1))), (1, ["fork", 3], told(3))])
        call = ["read", 0, 4]
        self.calls(m, [(3, call, WAITS)])
        self.exact(call, ["read", 0, 4])
        call[2] = 1
        self.calls(m, [
            (1, ["about", 3], told((1, 1, "waits", 0, ("read", 0, 4)))),
            (1, ["write", 1, "abcde"], told(5), [(3, told("abcd"))])])

    def test_refused_calls_change_nothing(self):
        m = busy()
        for call in [("fork", 200), ("wait", 0), ("wait", 9), ("lead",), ("adopt",), ("join", 2, 77), ("end", 1),
                     ("send", "end", 1), ("sendall", "end", 44), ("get", 4), ("set", 4, 1), ("make", "log", "x"),
                     ("remove", "zzz"), ("open", "zzz"), ("seek", 9, 0), ("copy", 9, 0), ("close", 9),
                     ("same", 0, 4, 0), ("peek", 0, 0), ("poke", 0, 0, 1), ("read", 0, 1), ("write", 1, "x" * 9),
                     ("pass", 0, 9), ("take", 0)]:
            with self.subTest(call=call):
                before = repr(everything(m))
                self.assertEqual(m.do(1, call)[0][0], "refused")
                self.assertEqual(repr(everything(m)), before)


CHANGES = [
    (1, ("fork", 8)), (2, ("lead",)), (2, ("end", 1)), (2, ("wait", 4)), (1, ("send", "go", 5)),
    (1, ("send", "wake", 3)), (1, ("sendall", "end", 1)), (2, ("set", 0, 5)), (1, ("make", "b", "c")),
    (1, ("remove", "log")), (1, ("open", "log")), (2, ("seek", 0, 2)), (2, ("read", 0, 2)), (2, ("write", 0, "xyz")),
    (2, ("pipe",)), (1, ("pair",)), (2, ("area",)), (2, ("copy", 0, 3)), (2, ("close", 2)), (2, ("poke", 5, 0, 9)),
    (2, ("write", 2, "abc")), (2, ("read", 4, 1)), (2, ("take", 3)), (2, ("pass", 3, 0)), (2, ("write", 4, "q")),
    (2, ("join", 2, 2)), (2, ("join", 3, 3)), (1, ("pass", 0, 1)), (1, ("write", 0, "w")),
]


# A row of calls that shows what a busy machine was like, made on the machine itself.
SHOWS = [
    (1, ("about", 1)), (1, ("about", 2)), (1, ("about", 3)), (1, ("about", 4)), (1, ("about", 5)), (1, ("handles",)),
    (2, ("handles",)), (2, ("get", 0)), (2, ("get", 1)), (2, ("peek", 5, 0)), (2, ("peek", 5, 2)), (2, ("read", 0, 2)),
    (1, ("open", "log")), (1, ("read", 2, 99)), (1, ("open", "b")), (1, ("open", "a")), (2, ("read", 4, 9)),
    (2, ("take", 4)), (2, ("take", 3)), (2, ("area",)), (2, ("pair",)), (2, ("same", 5, 2, 6)),
    (2, ("write", 2, "abc")), (2, ("read", 1, 9)), (1, ("write", 0, "x")), (1, ("read", 1, 9)), (2, ("adopt",)),
    (2, ("wait", 0)),
    (1, ("send", "go", 5)), (5, ("get", 1)), (5, ("set", 1, 2)), (2, ("get", 1)), (1, ("fork", 8)), (2, ("wait", 0)),
    (1, ("sendall", "end", 1)), (1, ("wait", 0)), (1, ("wait", 0)), (1, ("wait", 0)), (1, ("wait", 0)),
]


def shown(machine):
    results = []
    for number, call in SHOWS:
        try:
            results.append(machine.do(number, call))
        except NotRunning:
            results.append("not running")
    return repr((results, machine.numbers()))


class Twins(Case):
    def test_equal(self):
        m = busy()
        self.assertIsInstance(m.twin(), Machine)
        self.assertEqual(shown(m.twin()), shown(busy()))
        self.assertEqual(shown(m.twin().twin()), shown(busy()))
        self.assertEqual(shown(m), shown(busy()))

    def test_nothing_is_shared(self):
        usual = shown(busy())
        for number, call in CHANGES:
            with self.subTest(number=number, call=call):
                m = busy()
                changed = m.twin()
                result = changed.do(number, call)
                self.assertEqual(shown(m), usual)
                m = busy()
                twin = m.twin()
                self.exact(m.do(number, call), result)
                self.assertEqual(shown(twin), usual)
                self.assertEqual(shown(m), shown(changed))

    def test_rows_keep_their_order(self):
        m = Machine()
        self.setup_calls(m, [(1, ("pipe",)), (1, ("fork", 3)), (1, ("fork", 2)), (3, ("read", 0, 1)),
                             (2, ("read", 0, 1))])
        twin = m.twin()
        self.calls(twin, [(1, ("write", 1, "a"), told(1), [(3, told("a"))])])
        self.calls(m, [(1, ("write", 1, "ab"), told(2), [(2, told("b")), (3, told("a"))])])
        self.calls(twin, [(1, ("about", 2), told((1, 1, "waits", 0, ("read", 0, 1))))])


if __name__ == "__main__":
    unittest.main()
