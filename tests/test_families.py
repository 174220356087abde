"""[5] families: fork, lead, adopt, join, end, wait, send, sendall, about."""

import unittest

from tests.helper import NONE, WAITS, WOKEN, Case, refused, told
from treethaw.errors import NotRunning
from treethaw.machine import Machine


def about(session, group, word="runs", place=None, call=None):
    return told((session, group, word, place, call))


class Family(Case):
    def machine(self, *rows):
        return self.setup_calls(Machine(), rows)


class Fork(Family):
    def test_numbers_at_the_limits(self):
        m = self.machine()
        self.refuses(m, 1, ("fork", 1), "taken")
        self.refuses(m, 1, ("fork", 200), "taken")
        self.refuses(m, 1, ("fork", 10 ** 12), "taken")
        self.calls(m, [(1, ("fork", 199), told(199)), (1, ("fork", 2), told(2))])
        self.refuses(m, 1, ("fork", 199), "taken")
        self.refuses(m, 2, ("fork", 2), "taken")

    def test_ended_numbers(self):
        m = self.machine((1, ("fork", 2)), (2, ("end", 0)))
        self.refuses(m, 1, ("fork", 2), "taken")
        self.calls(m, [(1, ("wait", 2), told((2, 0))), (1, ("fork", 2), told(2))])

    def test_number_that_is_a_session_only(self):
        # 6 joins its own group, so that 5 is the session of 6 and nothing else.
        m = self.machine((1, ("fork", 5)), (5, ("lead",)), (5, ("fork", 6)), (6, ("join", 6, 6)), (5, ("end", 0)),
                         (1, ("wait", 5)))
        self.exact(m.numbers(), [1, 6])
        self.refuses(m, 1, ("fork", 5), "taken")
        self.setup_calls(m, [(6, ("end", 0))])
        self.refuses(m, 1, ("fork", 5), "taken")
        self.calls(m, [(1, ("wait", 6), told((6, 0))), (1, ("fork", 5), told(5))])

    def test_number_that_is_a_group_only(self):
        m = self.machine((1, ("fork", 6)), (1, ("fork", 7)), (6, ("join", 6, 6)), (7, ("join", 7, 6)),
                         (6, ("end", 0)), (1, ("wait", 6)))
        self.exact(m.numbers(), [1, 7])
        self.refuses(m, 7, ("fork", 6), "taken")
        self.setup_calls(m, [(7, ("end", 0))])
        self.refuses(m, 1, ("fork", 6), "taken")
        self.calls(m, [(1, ("wait", 7), told((7, 0))), (1, ("fork", 6), told(6))])

    def test_what_a_child_has(self):
        m = self.machine((1, ("fork", 5)), (5, ("lead",)), (5, ("adopt",)), (5, ("fork", 6)), (6, ("join", 6, 6)),
                         (6, ("set", 2, 8)), (6, ("pipe",)), (6, ("copy", 1, 7)), (6, ("fork", 9)))
        self.calls(m, [
            (1, ("about", 9), about(5, 6)), (9, ("get", 2), told(8)), (9, ("get", 0), told(0)),
            (9, ("handles",), told((0, 1, 7))), (9, ("same", 0, 6, 0), told(True)), (9, ("same", 7, 6, 1), told(True)),
            (6, ("set", 2, 1), NONE), (9, ("get", 2), told(8)), (9, ("set", 2, 3), NONE), (6, ("get", 2), told(1)),
            (9, ("close", 0), NONE), (6, ("handles",), told((0, 1, 7))), (6, ("close", 7), NONE),
            (9, ("handles",), told((1, 7)))])

    def test_a_child_does_not_adopt(self):
        m = self.machine((1, ("fork", 5)), (5, ("adopt",)), (5, ("fork", 6)), (6, ("fork", 7)), (7, ("fork", 8)),
                         (7, ("end", 0)))
        self.calls(m, [(6, ("wait", 8), refused("no child")), (5, ("join", 8, 5), NONE)])


class Lead(Family):
    def test_lead(self):
        m = self.machine((1, ("fork", 2)))
        self.calls(m, [(2, ("lead",), NONE), (2, ("about", 2), about(2, 2))])

    def test_children(self):
        m = self.machine((1, ("fork", 2)), (2, ("fork", 3)))
        self.refuses(m, 2, ("lead",), "children")
        self.setup_calls(m, [(3, ("end", 0))])
        self.refuses(m, 2, ("lead",), "children")
        self.calls(m, [(2, ("wait", 3), told((3, 0))), (2, ("lead",), NONE)])

    def test_own_group(self):
        m = self.machine((1, ("fork", 2)), (2, ("join", 2, 2)))
        self.refuses(m, 2, ("lead",), "group")
        self.calls(m, [(2, ("join", 2, 1), NONE), (2, ("lead",), NONE)])
        self.refuses(m, 2, ("lead",), "group")

    def test_group_of_another(self):
        m = self.machine((1, ("fork", 2)), (1, ("fork", 3)), (3, ("join", 3, 2)))
        self.refuses(m, 2, ("lead",), "group")
        self.setup_calls(m, [(3, ("end", 0))])
        self.refuses(m, 2, ("lead",), "group")
        self.calls(m, [(1, ("wait", 3), told((3, 0))), (2, ("lead",), NONE)])

    def test_children_before_group(self):
        m = self.machine((1, ("fork", 2)), (2, ("join", 2, 2)), (2, ("fork", 3)))
        self.refuses(m, 2, ("lead",), "children")

    def test_first(self):
        m = self.machine()
        self.refuses(m, 1, ("lead",), "group")
        self.setup_calls(m, [(1, ("fork", 2))])
        self.refuses(m, 1, ("lead",), "children")


class Adopt(Family):
    def test_children(self):
        m = self.machine((1, ("fork", 2)), (2, ("fork", 3)), (3, ("end", 0)))
        self.refuses(m, 2, ("adopt",), "children")
        self.refuses(m, 1, ("adopt",), "children")
        self.calls(m, [(2, ("wait", 0), told((3, 0))), (2, ("adopt",), NONE), (2, ("adopt",), NONE)])

    def test_first(self):
        self.calls(Machine(), [(1, ("adopt",), NONE)])


class Join(Family):
    def test_no_child(self):
        m = self.machine((1, ("fork", 2)), (2, ("fork", 3)), (3, ("fork", 4)), (1, ("fork", 5)))
        for who in (0, 1, 4, 5, 9, 200):
            self.refuses(m, 2, ("join", who, 1), "no child")
        self.calls(m, [(2, ("join", 2, 1), NONE), (2, ("join", 3, 1), NONE)])

    def test_ended_child(self):
        m = self.machine((1, ("fork", 2)), (2, ("fork", 3)), (3, ("end", 0)))
        self.refuses(m, 2, ("join", 3, 1), "no child")

    def test_another_session(self):
        m = self.machine((1, ("fork", 2)), (2, ("fork", 3)), (3, ("lead",)))
        self.refuses(m, 2, ("join", 3, 3), "no child")
        self.refuses(m, 2, ("join", 3, 1), "no child")

    def test_leads(self):
        m = self.machine((1, ("fork", 2)), (2, ("lead",)))
        self.refuses(m, 2, ("join", 2, 2), "leads")
        self.refuses(m, 2, ("join", 2, 77), "leads")
        self.refuses(m, 1, ("join", 1, 1), "leads")
        self.refuses(m, 1, ("join", 2, 1), "no child")

    def test_no_group(self):
        m = self.machine((1, ("fork", 2)), (2, ("fork", 3)), (1, ("fork", 4)), (4, ("lead",)), (4, ("fork", 5)))
        for group in (0, 4, 5, 9, 200):
            self.refuses(m, 2, ("join", 3, group), "no group")
        for group in (1, 2, 3):
            self.calls(m, [(2, ("join", 3, group), NONE), (1, ("about", 3), about(1, group))])

    def test_groups_of_another_session(self):
        m = self.machine((1, ("fork", 2)), (1, ("fork", 4)), (4, ("lead",)), (4, ("fork", 5)), (5, ("join", 5, 5)))
        self.refuses(m, 2, ("join", 2, 5), "no group")
        self.refuses(m, 5, ("join", 5, 1), "no group")
        self.refuses(m, 5, ("join", 5, 2), "no group")
        self.calls(m, [(5, ("join", 5, 4), NONE), (5, ("about", 5), about(4, 4))])

    def test_groups_of_ended_ones(self):
        m = self.machine((1, ("fork", 2)), (1, ("fork", 3)), (1, ("fork", 4)), (3, ("join", 3, 2)), (3, ("end", 0)),
                         (2, ("end", 0)), (1, ("wait", 2)))
        self.calls(m, [(4, ("join", 4, 3), NONE), (4, ("join", 4, 2), NONE)])
        self.calls(m, [(4, ("join", 4, 1), NONE), (1, ("wait", 3), told((3, 0)))])
        self.refuses(m, 4, ("join", 4, 2), "no group")
        self.refuses(m, 4, ("join", 4, 3), "no group")

    def test_waiting_and_stopped_children(self):
        m = self.machine((1, ("pipe",)), (1, ("fork", 2)), (1, ("fork", 3)), (2, ("read", 0, 1)),
                         (1, ("send", "stop", 3)))
        self.calls(m, [
            (1, ("join", 2, 2), NONE), (1, ("join", 3, 2), NONE),
            (1, ("about", 2), about(1, 2, "waits", 0, ("read", 0, 1))), (1, ("about", 3), about(1, 2, "stopped"))])


class End(Family):
    def test_first(self):
        m = self.machine((1, ("fork", 2)))
        self.refuses(m, 1, ("end", 0), "first")

    def test_codes(self):
        for code in (0, 3, -1, -7, 10 ** 12):
            m = self.machine((1, ("fork", 2)), (2, ("end", code)))
            self.calls(m, [(1, ("about", 2), about(1, 1, "ended")), (1, ("wait", 2), told((2, code)))])

    def test_keeps_session_and_group(self):
        m = self.machine((1, ("fork", 2)), (2, ("lead",)), (2, ("fork", 3)), (3, ("join", 3, 3)), (3, ("end", 0)),
                         (2, ("end", 0)))
        self.calls(m, [(1, ("about", 2), about(2, 2, "ended")), (1, ("about", 3), about(2, 3, "ended"))])

    def test_children_come_to_the_adopter_above(self):
        m = self.machine((1, ("fork", 2)), (2, ("adopt",)), (2, ("fork", 3)), (3, ("fork", 4)), (4, ("fork", 5)),
                         (4, ("fork", 6)), (6, ("end", 8)), (4, ("end", 4)))
        self.calls(m, [
            (3, ("wait", 5), refused("no child")), (1, ("wait", 5), refused("no child")),
            (2, ("wait", 6), told((6, 8))), (3, ("wait", 4), told((4, 4))), (2, ("join", 5, 2), NONE)])

    def test_children_come_to_the_first(self):
        m = self.machine((1, ("fork", 2)), (2, ("fork", 3)), (3, ("fork", 4)), (3, ("end", 0)))
        self.calls(m, [(2, ("wait", 4), refused("no child")), (1, ("join", 4, 2), NONE)])

    def test_an_adopter_that_ends_does_not_keep_its_own(self):
        m = self.machine((1, ("fork", 2)), (2, ("adopt",)), (2, ("fork", 3)), (3, ("adopt",)), (3, ("fork", 4)),
                         (3, ("end", 0)))
        self.calls(m, [(2, ("join", 4, 2), NONE)])
        self.setup_calls(m, [(2, ("end", 0))])
        self.calls(m, [(1, ("join", 4, 1), NONE), (1, ("wait", 3), told((3, 0))), (1, ("wait", 0), told((2, 0)))])

    def test_an_adopter_beside_is_not_above(self):
        m = self.machine((1, ("fork", 2)), (1, ("fork", 3)), (3, ("adopt",)), (2, ("fork", 4)), (2, ("end", 0)))
        self.calls(m, [(3, ("wait", 4), refused("no child")), (1, ("join", 4, 1), NONE)])


    def test_what_an_ended_one_has_left(self):
        m = self.machine((1, ("pipe",)), (1, ("fork", 2)), (2, ("adopt",)), (2, ("read", 0, 1)),
                         (1, ("send", "stop", 2)), (1, ("send", "end", 2)))
        ended = m.world.processes[2]
        self.exact((ended.adopts, ended.stopped, ended.code, ended.call, ended.cells, ended.handles),
                   (False, False, -1, None, [], {}))


class Wait(Family):
    def test_no_child(self):
        m = self.machine((1, ("fork", 2)), (2, ("fork", 3)), (3, ("fork", 4)))
        for number, who in [(4, 0), (4, 3), (2, 2), (2, 4), (2, 1), (2, 9), (2, 200), (1, 3), (1, 1)]:
            self.refuses(m, number, ("wait", who), "no child")

    def test_no_child_for_the_first(self):
        m = self.machine()
        self.refuses(m, 1, ("wait", 0), "no child")
        self.refuses(m, 1, ("wait", 1), "no child")

    def test_first_never_waits(self):
        m = self.machine((1, ("fork", 2)), (1, ("fork", 3)), (3, ("end", 5)))
        self.refuses(m, 1, ("wait", 2), "first")
        self.calls(m, [(1, ("wait", 0), told((3, 5)))])
        self.refuses(m, 1, ("wait", 0), "first")
        self.refuses(m, 1, ("wait", 3), "no child")

    def test_by_number(self):
        m = self.machine((1, ("fork", 2)), (2, ("fork", 3)), (2, ("fork", 4)), (2, ("wait", 4)), (3, ("end", 1)))
        self.calls(m, [
            (1, ("about", 2), about(1, 1, "waits", 0, ("wait", 4))), (4, ("end", 2), NONE, [(2, told((4, 2)))]),
            (2, ("wait", 4), refused("no child")), (2, ("wait", 3), told((3, 1))),
            (2, ("wait", 0), refused("no child"))])
        self.exact(m.numbers(), [1, 2])

    def test_by_0_takes_the_least(self):
        m = self.machine((1, ("fork", 2)), (2, ("fork", 7)), (2, ("fork", 4)), (2, ("fork", 5)), (7, ("end", 7)),
                         (5, ("end", 5)))
        self.calls(m, [(2, ("wait", 0), told((5, 5))), (2, ("wait", 0), told((7, 7))), (2, ("wait", 0), WAITS),
                       (4, ("send", "end", 4), NONE, [(2, told((4, -1)))])])

    def test_a_child_that_comes_by_adoption(self):
        m = self.machine((1, ("fork", 9)), (9, ("adopt",)), (9, ("fork", 6)), (6, ("fork", 5)), (5, ("end", 55)),
                         (9, ("wait", 0)))
        self.calls(m, [(6, ("end", 66), NONE, [(9, told((5, 55)))]), (9, ("wait", 0), told((6, 66)))])

    def test_a_waiting_parent_that_is_stopped(self):
        m = self.machine((1, ("fork", 2)), (2, ("fork", 3)), (2, ("wait", 3)), (1, ("send", "stop", 2)),
                         (3, ("end", 6)))
        self.calls(m, [(1, ("about", 2), about(1, 1, "stopped", 0, ("wait", 3))),
                       (1, ("send", "go", 2), NONE, [(2, told((3, 6)))])])


class Send(Family):
    def test_no_process(self):
        m = self.machine((1, ("fork", 2)), (2, ("end", 0)), (1, ("fork", 3)))
        for kind in ("stop", "go", "end", "wake"):
            for who in (0, 2, 9, 200):
                self.refuses(m, 3, ("send", kind, who), "no process")

    def test_first(self):
        m = self.machine((1, ("fork", 3)))
        for kind in ("stop", "go", "end", "wake"):
            for number in (1, 3):
                self.refuses(m, number, ("send", kind, 1), "first")

    def test_stop_and_go(self):
        m = self.machine((1, ("fork", 2)), (1, ("fork", 3)))
        for _ in range(2):
            self.calls(m, [(3, ("send", "stop", 2), NONE), (3, ("about", 2), about(1, 1, "stopped"))])
        self.assertRaises(NotRunning, m.do, 2, ("lead",))
        for _ in range(2):
            self.calls(m, [(3, ("send", "go", 2), NONE), (3, ("about", 2), about(1, 1))])
        self.calls(m, [(2, ("lead",), NONE)])

    def test_end(self):
        m = self.machine((1, ("adopt",)), (1, ("fork", 2)), (2, ("fork", 3)), (1, ("send", "stop", 2)))
        self.calls(m, [(3, ("send", "end", 2), NONE), (1, ("about", 2), about(1, 1, "ended")),
                       (1, ("wait", 2), told((2, -1))), (1, ("join", 3, 3), NONE)])

    def test_wake(self):
        m = self.machine((1, ("pipe",)), (1, ("fork", 2)), (1, ("fork", 3)), (2, ("read", 0, 1)))
        self.calls(m, [
            (3, ("send", "wake", 2), NONE, [(2, WOKEN)]), (3, ("about", 2), about(1, 1)),
            (3, ("send", "wake", 2), NONE), (1, ("write", 1, "a"), told(1)), (2, ("read", 0, 1), told("a"))])

    def test_wake_of_a_wait(self):
        m = self.machine((1, ("fork", 2)), (2, ("fork", 3)), (2, ("wait", 0)))
        self.calls(m, [(3, ("send", "wake", 2), NONE, [(2, WOKEN)]), (3, ("end", 1), NONE),
                       (2, ("wait", 0), told((3, 1)))])

    def test_wake_of_a_stopped_one(self):
        m = self.machine((1, ("pipe",)), (1, ("fork", 2)), (2, ("read", 0, 1)), (1, ("send", "stop", 2)))
        self.calls(m, [
            (1, ("about", 2), about(1, 1, "stopped", 0, ("read", 0, 1))),
            (1, ("send", "wake", 2), NONE, [(2, WOKEN)]), (1, ("about", 2), about(1, 1, "stopped")),
            (1, ("send", "wake", 2), NONE)])

    def test_to_the_caller(self):
        m = self.machine((1, ("fork", 2)), (1, ("fork", 3)), (1, ("fork", 4)))
        self.calls(m, [
            (2, ("send", "stop", 2), NONE), (1, ("about", 2), about(1, 1, "stopped")),
            (3, ("send", "go", 3), NONE), (3, ("send", "wake", 3), NONE), (3, ("about", 3), about(1, 1)),
            (4, ("send", "end", 4), NONE), (1, ("wait", 0), told((4, -1)))])

    def test_end_of_a_waiting_one(self):
        m = self.machine((1, ("pipe",)), (1, ("fork", 2)), (2, ("read", 0, 1)))
        self.calls(m, [(1, ("send", "end", 2), NONE), (1, ("about", 2), about(1, 1, "ended")),
                       (1, ("write", 1, "a"), told(1)), (1, ("read", 0, 1), told("a"))])


class Sendall(Family):
    def group(self):
        """2 and 4 are in the group 2, 3 is in the group 1, 5 has ended in the group 2."""
        return self.machine((1, ("pipe",)), (1, ("fork", 2)), (2, ("join", 2, 2)), (2, ("fork", 4)), (2, ("fork", 5)),
                            (1, ("fork", 3)), (5, ("end", 3)))

    def test_no_group(self):
        m = self.group()
        for kind in ("stop", "go", "end", "wake"):
            for group in (0, 4, 9, 200):
                self.refuses(m, 3, ("sendall", kind, group), "no group")

    def test_first_alone(self):
        m = self.machine()
        self.refuses(m, 1, ("sendall", "go", 1), "no group")
        self.setup_calls(m, [(1, ("fork", 2)), (2, ("lead",)), (1, ("fork", 3)), (3, ("end", 0))])
        self.refuses(m, 1, ("sendall", "end", 1), "no group")

    def test_ended_ones_alone(self):
        m = self.machine((1, ("fork", 2)), (2, ("lead",)), (2, ("end", 0)))
        self.refuses(m, 1, ("sendall", "go", 2), "no group")

    def test_how_many(self):
        for kind in ("go", "wake", "stop"):
            m = self.group()
            self.calls(m, [(3, ("sendall", kind, 2), told(2)), (3, ("sendall", kind, 1), told(1))])

    def test_stop_and_go(self):
        m = self.group()
        self.calls(m, [
            (2, ("sendall", "stop", 2), told(2)), (1, ("about", 2), about(1, 2, "stopped")),
            (1, ("about", 4), about(1, 2, "stopped")), (1, ("about", 3), about(1, 1)),
            (1, ("about", 5), about(1, 2, "ended")), (3, ("sendall", "go", 2), told(2)),
            (2, ("about", 4), about(1, 2)), (4, ("about", 2), about(1, 2))])

    def test_end_of_the_caller_too(self):
        m = self.group()
        self.calls(m, [
            (2, ("sendall", "end", 2), told(2)), (1, ("wait", 0), told((2, -1))), (1, ("wait", 0), told((4, -1))),
            (1, ("wait", 0), told((5, 3))), (1, ("wait", 0), refused("first"))])

    def test_the_first_is_passed(self):
        m = self.group()
        self.calls(m, [(1, ("sendall", "stop", 1), told(1)), (1, ("about", 3), about(1, 1, "stopped")),
                       (1, ("about", 1), about(1, 1))])

    def test_wake(self):
        m = self.group()
        self.setup_calls(m, [(4, ("read", 0, 1)), (2, ("read", 0, 1)), (3, ("read", 0, 1)), (1, ("send", "stop", 4))])
        self.calls(m, [(1, ("sendall", "wake", 2), told(2), [(2, WOKEN), (4, WOKEN)]),
                       (1, ("about", 3), about(1, 1, "waits", 0, ("read", 0, 1)))])


class About(Family):
    def test_no_process(self):
        m = self.machine((1, ("fork", 2)), (2, ("end", 0)), (1, ("wait", 2)))
        for who in (0, 2, 9, 200):
            self.refuses(m, 1, ("about", who), "no process")

    def test_words(self):
        m = self.machine((1, ("pipe",)), (1, ("fork", 2)), (1, ("fork", 3)), (1, ("fork", 4)), (1, ("fork", 5)),
                         (2, ("read", 0, 3)), (3, ("read", 0, 5)), (1, ("send", "stop", 2)), (4, ("end", 0)),
                         (1, ("send", "stop", 5)))
        self.calls(m, [
            (1, ("about", 1), about(1, 1)), (1, ("about", 2), about(1, 1, "stopped", 0, ("read", 0, 3))),
            (1, ("about", 3), about(1, 1, "waits", 1, ("read", 0, 5))), (1, ("about", 4), about(1, 1, "ended")),
            (1, ("about", 5), about(1, 1, "stopped"))])

    def test_an_ended_one_that_was_stopped_or_waited(self):
        m = self.machine((1, ("pipe",)), (1, ("fork", 2)), (2, ("read", 0, 3)), (1, ("send", "stop", 2)),
                         (1, ("send", "end", 2)))
        self.calls(m, [(1, ("about", 2), about(1, 1, "ended"))])

    def test_calls_as_made(self):
        m = self.machine((1, ("pair",)), (1, ("fork", 2)), (1, ("fork", 3)), (1, ("fork", 4)), (4, ("fork", 5)),
                         (2, ("take", 0)), (3, ("read", 1, 77)), (4, ("wait", 0)), (1, ("pipe",)), (1, ("fork", 6)),
                         (1, ("write", 3, "12345678")), (6, ("write", 3, "a b")))
        self.calls(m, [
            (1, ("about", 2), about(1, 1, "waits", 0, ("take", 0))),
            (1, ("about", 3), about(1, 1, "waits", 0, ("read", 1, 77))),
            (1, ("about", 4), about(1, 1, "waits", 0, ("wait", 0))),
            (5, ("about", 6), about(1, 1, "waits", 0, ("write", 3, "a b")))])


if __name__ == "__main__":
    unittest.main()
