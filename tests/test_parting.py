"""[12] alike, parting and shows_parting, and (e) of [1]."""

import copy
import random
import unittest

from tests.drawing import Drawn
from tests.growing import made
from tests.helper import Case, listed, part, places, put
from tests.test_model import EVEN, FAMILIES_MOST, FILES, LETTERS_MOST, PIPES_MOST, Caller, Model
from treethaw.bars import bar
from treethaw.images import is_image, state
from treethaw.machine import Machine, is_call
from treethaw.parting import alike, parting, shows_parting
from treethaw.plans import plan, play


def parts(one, other, steps):
    """Whether steps part two machines at the last one, found out step by step."""
    left, right = one.twin(), other.twin()
    for at, (number, call) in enumerate(steps):
        results = made(left, number, call), made(right, number, call)
        if at == len(steps) - 1:
            return results[0] != results[1]
        if "not running" in results or results[0] != results[1]:
            return False
    return False


class PartingCase(Case):
    def are_unlike(self, one, other):
        """Checks all that is told of two machines in unequal states, both ways; returns the list."""
        before = repr((state(one), state(other)))
        found = None
        for left, right in ((other, one), (one, other)):
            self.assertIs(alike(left, right), False)
            found = parting(left, right)
            self.assertIs(type(found), list)
            self.assertTrue(found)
            for step in found:
                self.assertEqual((type(step), len(step), type(step[0])), (tuple, 2, int))
                self.assertTrue(is_call(step[1]), step)
            self.assertTrue(parts(left, right, found), found)
            self.assertIs(shows_parting(left, right, found), True)
            self.assertIs(shows_parting(right, left, found), True)
            self.assertEqual(parting(left.twin(), right.twin()), found)
        self.assertEqual(repr((state(one), state(other))), before)
        return found

    def are_alike(self, one, other):
        before = repr((state(one), state(other)))
        for left, right in ((one, other), (other, one), (one, one), (one, one.twin())):
            self.assertIs(alike(left, right), True)
            self.assertIsNone(parting(left, right))
            for steps in ([], [(1, ("about", 1))], [(1, ("area",)), (1, ("handles",))], [(77, ("lead",))]):
                self.assertIs(shows_parting(left, right, steps), False)
        self.assertEqual(repr((state(one), state(other))), before)

    def built(self, *rows, files=FILES):
        machine = Machine(files)
        for calls in rows:
            self.setup_calls(machine, calls)
        return machine


class Alike(PartingCase):
    """One state by two rows of calls."""

    def one_state(self, one, other):
        self.are_alike(self.built(one), self.built(other))

    def test_nothing_done(self):
        self.one_state([], [])
        self.are_alike(Machine(), Machine(()))
        self.are_alike(Machine([("a", "x"), ("b", "y")]), Machine((["b", "y"], ["a", "x"])))

    def test_families(self):
        self.one_state([(1, ("fork", 5)), (1, ("fork", 6))], [(1, ("fork", 6)), (1, ("fork", 5))])
        self.one_state([(1, ("fork", 5))], [(1, ("fork", 6)), (6, ("fork", 5)), (6, ("end", 3)), (1, ("wait", 6))])
        self.one_state([(1, ("fork", 5)), (5, ("join", 5, 5)), (5, ("join", 5, 1))], [(1, ("fork", 5))])
        self.one_state([(1, ("fork", 5)), (5, ("end", -1))], [(1, ("fork", 5)), (1, ("send", "end", 5))])
        self.one_state([(1, ("fork", 5)), (5, ("adopt",)), (5, ("adopt",))], [(1, ("fork", 5)), (5, ("adopt",))])
        self.one_state([(1, ("fork", 5)), (5, ("adopt",)), (5, ("end", 0))], [(1, ("fork", 5)), (5, ("end", 0))])

    def test_cells(self):
        self.one_state([(1, ("set", 1, 5)), (1, ("set", 1, 0)), (1, ("set", 2, 4))], [(1, ("set", 2, 4))])

    def test_things(self):
        self.one_state([(1, ("area",)), (1, ("pair",))], [(1, ("pair",)), (1, ("area",)), (1, ("copy", 0, 5)),
                       (1, ("copy", 2, 0)), (1, ("copy", 1, 2)), (1, ("copy", 5, 1)), (1, ("close", 5))])
        self.one_state([(1, ("pipe",)), (1, ("write", 1, "ab"))],
                       [(1, ("pipe",)), (1, ("write", 1, "za")), (1, ("read", 0, 1)), (1, ("write", 1, "b"))])
        self.one_state([(1, ("pair",))], [(1, ("pair",)), (1, ("copy", 0, 2)), (1, ("copy", 1, 0)), (1, ("copy", 2, 1)),
                       (1, ("close", 2))])
        self.one_state([], [(1, ("pair",)), (1, ("pass", 0, 0)), (1, ("pass", 1, 1)), (1, ("close", 0)),
                       (1, ("close", 1))])

    def test_text_that_nobody_can_read(self):
        self.one_state([(1, ("pipe",)), (1, ("close", 0))],
                       [(1, ("pipe",)), (1, ("write", 1, "abc")), (1, ("close", 0))])
        self.one_state([(1, ("pair",)), (1, ("close", 0))],
                       [(1, ("pair",)), (1, ("write", 1, "abc")), (1, ("close", 0))])

    def test_files(self):
        self.one_state([(1, ("open", "log")), (1, ("read", 0, 2))], [(1, ("open", "log")), (1, ("seek", 0, 2))])
        self.one_state([(1, ("open", "log")), (1, ("write", 0, "ab")), (1, ("close", 0))], [])
        self.are_alike(self.built([(1, ("make", "q", "w"))]), Machine([*FILES, ("q", "w")]))
        self.are_alike(self.built([(1, ("remove", "log"))]), Machine([FILES[1]]))

    def test_waiting(self):
        begin = [(1, ("pipe",)), (1, ("fork", 5)), (1, ("fork", 6)), (5, ("read", 0, 3))]
        self.one_state([*begin, (6, ("read", 0, 3)), (1, ("send", "stop", 5))],
                       [*begin, (1, ("send", "stop", 5)), (6, ("read", 0, 3))])


class OneThing(PartingCase):
    """Machines that are unlike in one thing only."""

    def unlike(self, begin, one, other, files=FILES, more=FILES):
        return self.are_unlike(self.built(begin, one, files=files), self.built(begin, other, files=more))

    def test_process(self):
        self.exact(self.unlike([], [(1, ("fork", 5))], []), [(1, ("about", 5))])
        self.unlike([(1, ("fork", 5))], [(1, ("fork", 7))], [(5, ("fork", 8))])

    def test_session(self):
        self.unlike([(1, ("fork", 5))], [(5, ("lead",))], [(5, ("join", 5, 5))])

    def test_group(self):
        self.unlike([(1, ("fork", 5)), (1, ("fork", 6))], [(6, ("join", 6, 5))], [])
        self.unlike([(1, ("fork", 5)), (1, ("fork", 6)), (6, ("join", 6, 5)), (6, ("end", 1))], [(5, ("join", 5, 5))], [])

    def test_word(self):
        self.unlike([(1, ("fork", 5))], [(1, ("send", "stop", 5))], [])
        self.unlike([(1, ("fork", 5))], [(1, ("send", "stop", 5))], [(5, ("end", 0))])
        self.unlike([(1, ("fork", 5)), (5, ("fork", 6))], [(5, ("wait", 6))], [])
        self.unlike([(1, ("fork", 5)), (5, ("fork", 6)), (5, ("wait", 6))], [(1, ("send", "stop", 5))], [])

    def test_code(self):
        begin = [(1, ("fork", 5)), (5, ("fork", 6))]
        for calls in ([], [(1, ("send", "stop", 5))], [(5, ("fork", 7)), (5, ("wait", 7))]):
            self.unlike([*begin, *calls], [(6, ("end", 3))], [(6, ("end", -3))])

    def test_adopter(self):
        begin = [(1, ("fork", 5)), (5, ("adopt",)), (5, ("fork", 6))]
        for calls in ([], [(6, ("fork", 7))], [(6, ("fork", 7)), (6, ("wait", 7))],
                      [(6, ("fork", 7)), (6, ("wait", 7)), (1, ("send", "stop", 6))]):
            self.unlike(begin, [(6, ("adopt",)), *calls], calls)

    def test_parent(self):
        for calls in ([], [(7, ("end", 0))], [(1, ("send", "stop", 5)), (1, ("send", "stop", 6))]):
            begin = [(1, ("fork", 5)), (1, ("fork", 6))]
            self.unlike(begin, [(5, ("fork", 7)), *calls], [(6, ("fork", 7)), *calls])
            self.unlike(begin, [(5, ("fork", 7)), *calls], [(1, ("fork", 7)), *calls])

    def test_handle(self):
        self.exact(self.unlike([(1, ("area",))], [(1, ("copy", 0, 3)), (1, ("close", 0))], []), [(1, ("handles",))])
        self.unlike([(1, ("area",)), (1, ("fork", 5))], [(5, ("copy", 0, 10 ** 12))], [])
        self.unlike([(1, ("pair",)), (1, ("fork", 5)), (5, ("read", 0, 1))], [(1, ("close", 0))], [])

    def test_cell(self):
        self.exact(self.unlike([], [(1, ("set", 3, 1))], []), [(1, ("get", 3))])
        self.unlike([(1, ("fork", 5))], [(5, ("set", 0, -1)), (1, ("send", "stop", 5))], [(1, ("send", "stop", 5))])
        for cell in range(4):
            self.unlike([(1, ("fork", 5))], [(5, ("set", cell, 10 ** 12))], [(5, ("set", cell, -10 ** 12))])

    def test_cell_of_an_area(self):
        for cell in range(4):
            self.unlike([(1, ("area",)), (1, ("fork", 5))], [(5, ("poke", 0, cell, 7))], [])

    def test_kind(self):
        kinds = [[(1, ("area",))], [(1, ("open", "a"))], [(1, ("pipe",)), (1, ("close", 1))],
                 [(1, ("pipe",)), (1, ("close", 0)), (1, ("copy", 1, 0)), (1, ("close", 1))],
                 [(1, ("pair",)), (1, ("close", 1))]]
        for at, one in enumerate(kinds):
            for other in kinds[:at]:
                self.unlike([], one, other)
                self.unlike([], [*one, (1, ("fork", 5)), (1, ("close", 0))], [*other, (1, ("fork", 5)), (1, ("close", 0))])
                wrapped = [(1, ("copy", 0, 9)), (1, ("close", 0)), (1, ("pair",)), (1, ("pass", 0, 9)), (1, ("close", 9))]
                self.unlike([], [*one, *wrapped], [*other, *wrapped])

    def test_text_in_a_pipe(self):
        begin = [(1, ("pipe",)), (1, ("fork", 5))]
        for one, other in (("a", "b"), ("ab", "ba"), ("12345678", "1234567"), ("aab", "aba")):
            for calls in ([], [(1, ("close", 0)), (1, ("close", 1))], [(1, ("close", 1)), (5, ("close", 1))]):
                self.unlike(begin, [(1, ("write", 1, one)), *calls], [(1, ("write", 1, other)), *calls])
        self.unlike(begin, [(1, ("write", 1, "a"))], [])
        self.unlike(begin, [(1, ("write", 1, "a")), (1, ("close", 1)), (5, ("close", 1))],
                    [(1, ("close", 1)), (5, ("close", 1))])

    def test_text_in_the_other_pipe(self):
        begin = [(1, ("pipe",)), (1, ("pipe",))]
        self.unlike(begin, [(1, ("write", 1, "a"))], [(1, ("write", 3, "a"))])

    def test_end_that_is_held(self):
        for thing in ("pipe", "pair"):
            for end in (0, 1):
                self.unlike([(1, (thing,)), (1, ("pair",)), (1, ("pass", 2, end)), (1, ("close", end))], [(1, ("take", 3))],
                            [(1, ("take", 3)), (1, ("close", end)), (1, ("area",))])
                begin = [(1, (thing,)), (1, ("fork", 5)), (1, ("close", end))]
                self.unlike(begin, [(5, ("area",)), (5, ("copy", 2, end)), (5, ("close", 2))], [])

    def test_letters(self):
        begin = [(1, ("pair",)), (1, ("fork", 5))]
        write = lambda *texts: [(1, ("write", 0, text)) for text in texts]
        self.unlike(begin, write("a"), [])
        self.unlike(begin, write("a"), write("b"))
        self.unlike(begin, write("a", "b"), write("b", "a"))
        self.unlike(begin, write("ab"), write("a", "b"))
        self.unlike(begin, write("x", "x", "x", "a"), write("x", "x", "x", "b"))
        self.unlike(begin, write("a"), [(1, ("write", 1, "a"))])
        self.unlike(begin, write("a"), [(1, ("pass", 0, 0))])
        self.unlike(begin, [(1, ("pass", 0, 1))], [(1, ("pass", 0, 0))])

    def test_things_two_deep(self):
        begin = [(1, ("area",)), (1, ("area",)), (1, ("open", "log")), (1, ("open", "log")), (1, ("pipe",)),
                 (1, ("pair",)), (1, ("pair",)), (1, ("pair",))]
        close = [(1, ("close", handle)) for handle in range(8)]

        def deep(what, *calls):
            inner = [*calls, (1, ("pass", 6, what)), (1, ("pass", 8, 7)), (1, ("pass", 10, 9))]
            return [*inner, *close, (1, ("close", 8)), (1, ("close", 9)), (1, ("close", 10))]

        whats = [deep(what) for what in range(6)]
        changed = [deep(0, (1, ("poke", 0, 3, 9))), deep(2, (1, ("seek", 2, 1))), deep(4, (1, ("write", 5, "w")))]
        for one, other in [(0, 2), (0, 4), (2, 4), (4, 5)]:
            self.unlike(begin, whats[one], whats[other])
        for one, other in [(changed[0], whats[0]), (changed[1], whats[2]), (changed[2], whats[4])]:
            self.unlike(begin, one, other)

    def test_thing_that_is_held_elsewhere_too(self):
        begin = [(1, ("area",)), (1, ("area",)), (1, ("pair",))]
        self.unlike(begin, [(1, ("pass", 2, 0))], [(1, ("pass", 2, 1))])

    def test_files(self):
        self.exact(self.unlike([], [], [], more=[*FILES, ("b", "")])[-1], (1, ("open", "b")))
        self.unlike([], [], [], more=[("log", "abd"), FILES[1]])
        self.unlike([], [], [], more=[("log", "ab"), FILES[1]])
        self.unlike([], [], [], files=[("p", "x"), ("q", "y")], more=[("p", "y"), ("q", "x")])

    def test_text_of_a_file_without_a_path(self):
        begin = [(1, ("fork", 5)), (5, ("open", "log")), (1, ("remove", "log"))]
        self.unlike(begin, [(5, ("write", 0, "x")), (5, ("seek", 0, 0))], [])
        self.unlike(begin, [(5, ("seek", 0, 3)), (5, ("write", 0, "x")), (5, ("seek", 0, 0))], [])
        self.unlike(begin, [(5, ("write", 0, "x"))], [(5, ("seek", 0, 1))])
        self.unlike([(1, ("make", "p", "abab")), (1, ("make", "q", "bab"))],
                    [(1, ("open", "p")), (1, ("seek", 0, 2)), (1, ("remove", "p")), (1, ("remove", "q"))],
                    [(1, ("open", "q")), (1, ("seek", 0, 1)), (1, ("remove", "p")), (1, ("remove", "q"))])

    def test_path_of_a_file(self):
        files = [("p", "x"), ("q", "x")]
        self.unlike([], [(1, ("open", "p"))], [(1, ("open", "q"))], files, files)
        self.unlike([(1, ("open", "p"))], [], [(1, ("remove", "p")), (1, ("make", "p", "x"))], files, files)
        self.unlike([(1, ("fork", 5)), (5, ("open", "p"))], [], [(1, ("remove", "p"))], files, files)
        self.unlike([(1, ("make", "r", "")), (1, ("make", "s", ""))], [(1, ("open", "r"))], [(1, ("open", "s"))])
        self.unlike([], [(1, ("remove", "p")), (1, ("make", "r", "x"))], [], files, files)

    def test_marks_that_files_begin_with(self):
        texts = [a + b for a in "abcdefghijklmnopqrstuvwxyz" for b in "abcdefghijklmnopqrstuvwxyz"]
        files = [("p", "aa"), ("q", "aa"), *[("x" + text, text) for text in texts[1:20]]]
        self.unlike([], [(1, ("open", "p"))], [(1, ("open", "q"))], files, files)
        removed = [(1, ("open", "p")), (1, ("open", "q")), (1, ("open", "p")), (1, ("open", "q")),
                   (1, ("remove", "p")), (1, ("remove", "q"))]
        swapped = [(1, ("copy", 2, 9)), (1, ("copy", 3, 2)), (1, ("copy", 9, 3)), (1, ("close", 9))]
        self.unlike(removed, swapped, [], files, files)
        both = [(1, ("remove", "p")), (1, ("remove", "q"))]
        self.unlike([(1, ("open", "p"))], [(1, ("open", "p")), *both], [(1, ("open", "q")), *both], files, files)

    def test_place_of_an_opening(self):
        for place in (1, 2, 3):
            self.unlike([(1, ("fork", 5)), (5, ("open", "log"))], [(5, ("seek", 0, place))], [])
        self.unlike([(1, ("make", "w", "aaaa")), (1, ("open", "w"))], [(1, ("seek", 0, 3))], [(1, ("seek", 0, 2))])

    def test_who_holds_the_same(self):
        for calls in ([(1, ("area",))], [(1, ("open", "log"))]):
            again = [(1, ("copy", 0, 1))]
            self.unlike(calls, calls, again)
            self.unlike([*calls, (1, ("fork", 5))], [(5, ("close", 0)), (5, calls[0][1])], [])
        begin = [(1, ("open", "log")), (1, ("fork", 5)), (1, ("open", "log")), (5, ("open", "log")), (1, ("fork", 6))]
        self.unlike(begin, [(6, ("copy", 0, 2))], [(6, ("copy", 1, 2))])

    def test_partners(self):
        for thing in ("pipe", "pair"):
            begin = [(1, (thing,)), (1, (thing,))]
            exchange = [(1, ("copy", 1, 9)), (1, ("copy", 3, 1)), (1, ("copy", 9, 3)), (1, ("close", 9))]
            self.unlike(begin, exchange, [])
            self.unlike([*begin, (1, ("fork", 5)), (1, ("close", 1)), (1, ("close", 3))],
                        [(5, call) for _, call in exchange], [])
            begin = [(1, (thing,)), (1, (thing,)), (1, ("close", 1)), (1, ("close", 2))]
            self.unlike([], [*begin, (1, ("copy", 3, 1)), (1, ("close", 3))], [(1, (thing,))])

    def test_who_waits(self):
        begin = [(1, ("pipe",)), (1, ("fork", 5)), (1, ("fork", 6)), (1, ("fork", 7))]
        self.unlike(begin, [(5, ("read", 0, 1))], [(6, ("read", 0, 1))])
        self.unlike(begin, [(5, ("read", 0, 1))], [])

    def test_place_in_a_row(self):
        begin = [(1, ("pipe",)), (1, ("fork", 5)), (1, ("fork", 6)), (1, ("fork", 7))]
        five, six, seven = [(n, ("read", 0, 1)) for n in (5, 6, 7)]
        stop = [(1, ("send", "stop", n)) for n in (5, 6, 7)]
        for calls in ([], stop[:1], stop):
            self.unlike(begin, [five, six, seven, *calls], [five, seven, six, *calls])
            self.unlike(begin, [five, six, *calls], [six, five, *calls])

    def test_place_in_a_row_of_another_pipe(self):
        begin = [(1, ("pipe",)), (1, ("pipe",)), (1, ("fork", 5)), (1, ("fork", 6)), (1, ("fork", 7)),
                 (5, ("copy", 0, 9)), (6, ("copy", 2, 9)), (5, ("read", 9, 1)), (6, ("read", 9, 1))]
        wait = [(7, ("read", 9, 1)), (1, ("send", "stop", 7))]
        self.unlike(begin, [(7, ("copy", 0, 9)), *wait], [(7, ("copy", 2, 9)), *wait])

    def test_waiting_call(self):
        begin = [(1, ("pair",)), (1, ("pipe",)), (1, ("fork", 5)), (5, ("fork", 6))]
        calls = [("read", 0, 1), ("read", 0, 2), ("take", 0), ("read", 1, 1), ("take", 1), ("read", 2, 1), ("wait", 0),
                 ("wait", 6)]
        for at, one in enumerate(calls):
            for other in calls[:at]:
                self.unlike(begin, [(5, one)], [(5, other)])
                stop = (1, ("send", "stop", 5))
                self.unlike(begin, [(5, one), stop], [(5, other), stop])
        full = [(1, ("write", 0, "x"))] * 4 + [(1, ("write", 3, "12345678"))]
        calls = [("write", 0, "a"), ("write", 0, "b"), ("pass", 0, 0), ("pass", 0, 1), ("write", 3, "a")]
        for at, one in enumerate(calls):
            for other in calls[:at]:
                self.unlike([*begin, *full], [(5, one)], [(5, other)])


class Shown(PartingCase):
    """shows_parting of all kinds of values."""

    def setUp(self):
        self.one = self.built([(1, ("set", 3, 1)), (1, ("fork", 5)), (1, ("fork", 6))])
        self.other = self.built([(1, ("fork", 5)), (1, ("fork", 6)), (1, ("send", "stop", 6))])

    def shown(self, thing):
        before = repr((state(self.one), state(self.other), thing))
        found = [shows_parting(self.one, self.other, thing), shows_parting(self.other, self.one, thing)]
        self.assertEqual(repr((state(self.one), state(self.other), thing)), before)
        self.assertEqual(repr(found), repr([found[0]] * 2))
        return found[0]

    def test_right_ones(self):
        for thing in ([(1, ("get", 3))], [(1, ("get", 2)), (1, ("get", 3))], [(1, ("about", 6))],
                      [(1, ("fork", 7)), (7, ("lead",)), (7, ("get", 3))], [(1, ("about", 99)), (5, ("about", 6))],
                      [(1, ("fork", 5)), (1, ("get", 3))]):
            self.assertIs(self.shown(thing), True, thing)

    def test_not_running_on_one_alone(self):
        self.assertIs(self.shown([(6, ("handles",))]), True)
        self.assertIs(self.shown([(1, ("pipe",)), (6, ("handles",))]), True)
        self.assertIs(self.shown([(6, ("handles",)), (1, ("get", 3))]), False)

    def test_not_running_on_both(self):
        for thing in ([(9, ("handles",))], [(9, ("handles",)), (1, ("get", 3))], [(5, ("end", 0)), (5, ("get", 3))],
                      [(0, ("handles",))], [(-1, ("handles",))]):
            self.assertIs(self.shown(thing), False, thing)

    def test_other_answers_of_others(self):
        begin = [(1, ("pair",)), (1, ("fork", 5)), (1, ("fork", 6)), (5, ("read", 0, 1))]
        self.one, self.other = self.built(begin), self.built(begin, [(1, ("send", "stop", 5))])
        self.assertIs(self.shown([(1, ("write", 1, "a"))]), True)
        self.assertIs(self.shown([(1, ("write", 1, "a")), (1, ("about", 5))]), False)

    def test_too_early_too_late_not_at_all(self):
        for thing in ([], [(1, ("get", 2))], [(1, ("get", 3)), (1, ("get", 2))], [(1, ("get", 3)), (1, ("get", 3))],
                      [(1, ("set", 3, 1)), (1, ("get", 3))], [(1, ("get", 2)), (1, ("get", 1))],
                      [(1, ("send", "stop", 6)), (6, ("handles",))], [(1, ("send", "go", 6)), (6, ("handles",))]):
            self.assertIs(self.shown(thing), False, thing)

    def test_lists_and_tuples(self):
        good = [(1, ("get", 3))]
        for thing in (((1, ("get", 3)),), [[1, ("get", 3)]], [(1, ["get", 3])], listed(good), (1, ("get", 3)), good[0],
                      [good], (good,), [(1, ("get", 3), 1)], [(1,)], [()], [("get", 3)]):
            self.assertIs(self.shown(thing), False, thing)

    def test_other_kinds(self):
        for thing in (None, True, False, 0, 1, "", "get", (), [None], [1], ["get"], [(True, ("get", 3))],
                      [(1, ("get", True))], [("1", ("get", 3))], [(1, ("get", "3"))], [(1, "get")], [(1, None)],
                      [(1, ("get",))], [(1, ("got", 3))], [(1, ("get", -3))], [(None, ("get", 3))],
                      [[[[[[[[[[1]]]]]]]]]], [(1, ("get", 3)), None], [None, (1, ("get", 3))],
                      [(1, ("write", 0, "")), (1, ("get", 3))], [(1, ("fork", 0)), (1, ("get", 3))]):
            self.assertIs(self.shown(thing), False, thing)

    def test_agrees_with_a_second_judge(self):
        r = random.Random(5)
        seen = {True: 0, False: 0}
        for _ in range(400):
            one, other = drawn_pair(r, EVEN, 4, 20)
            if alike(one, other):
                continue
            steps = parting(one, other)
            at = r.randrange(len(steps))
            for thing in (steps[:at], steps[at:], steps + [(1, ("about", 2))], [(1, ("about", 1))] + steps, steps[::-1],
                          steps[:at] + steps[at + 1:], steps + steps[-1:], steps[:-1]):
                found = shows_parting(one, other, thing)
                self.assertIs(found, parts(one, other, thing), thing)
                seen[found] += 1
        self.assertGreater(min(seen.values()), 100)


def drawn_pair(r, weights, most_handles, steps):
    """Two machines that went different ways from some call on, for one call or several."""
    caller = Caller(r.random(), weights, most_handles)
    one, model = Machine(FILES), Model(FILES)
    for number, call in caller.beginning():
        one.do(number, call), model.do(number, call)
    for _ in range(r.randrange(steps)):
        number = caller.number(model)
        call = caller.call(model, number)
        if model.running(number):
            one.do(number, call), model.do(number, call)
    other = one.twin()
    for machine in (one, other):
        for _ in range(r.choice([0, 1, 1, 2, 5])):
            number = caller.number(model)
            made(machine, number, caller.call(model, number))
    return one, other


class Ways(PartingCase):
    """Machines that drawn calls have led different ways."""

    def many(self, weights, most_handles):
        r = random.Random(8)
        seen = {True: 0, False: 0}
        for _ in range(120):
            one, other = drawn_pair(r, weights, most_handles, 80)
            same = state(one) == state(other)
            (self.are_alike if same else self.are_unlike)(one, other)
            seen[same] += 1
        self.assertGreater(min(seen.values()), 10)

    def test_all_calls(self):
        self.many(EVEN, 8)

    def test_letters(self):
        self.many(LETTERS_MOST, 4)

    def test_pipes(self):
        self.many(PIPES_MOST, 3)

    def test_families(self):
        self.many(FAMILIES_MOST, 3)

    def test_machines_of_no_kinship(self):
        r = random.Random(3)
        machines = [drawn_pair(r, EVEN, 6, 60)[0] for _ in range(20)]
        for one, other in zip(machines, machines[1:]):
            self.are_unlike(one, other)


class Changed(PartingCase):
    """Drawn images of which something is changed, thawed on bare machines."""

    files = [("log", "abc"), ("b", ""), ("c", "abc")]

    def thawed(self, image):
        files = dict(self.files)
        files.update({path: text for path, text in image[5] if path is not None})
        machine = Machine(list(files.items()))
        return play(machine, plan(image, machine))

    def new_value(self, r, value, numbers):
        if isinstance(value, bool):
            return not value
        if isinstance(value, int):
            return r.choice([value + 1, value - 1, 0, r.choice(numbers)])
        if isinstance(value, str):
            return r.choice([value + "q", value[:-1], value[::-1], "", "runs", "waits", "stopped", "read", "take"])
        if value is None or value == ():
            return r.choice([("x",), (0,)])
        items = list(value)
        change = r.choice(["less", "mixed", "more"])
        if change == "less":
            del items[r.randrange(len(items))]
        elif change == "mixed":
            r.shuffle(items)
        else:
            items.insert(r.randrange(len(items) + 1), r.choice(items + ["x", 0]))
        return tuple(items)

    def test_one_value(self):
        r, seen = random.Random(1), 0
        for _ in range(60):
            image = Drawn(r, r.randint(1, 5), r.choice([0, 4, 8, 12]), self.files).image()
            one, found = self.thawed(image), places(image)
            numbers = [part(image, at) for at in found if type(part(image, at)) is int]
            for _ in range(40):
                at = r.choice(found)
                changed = put(image, at, self.new_value(r, part(image, at), numbers))
                if changed != image and is_image(changed) and bar(changed) is None:
                    self.are_unlike(one, self.thawed(changed))
                    seen += 1
        self.assertGreater(seen, 200)

    def test_wires(self):
        r, seen = random.Random(2), {}
        for _ in range(60):
            drawn = Drawn(r, r.randint(1, 6), r.choice([4, 8, 12, 20]), self.files)
            drawn.random = None
            image = drawn.image()
            one = self.thawed(image)
            for _ in range(12):
                other = copy.deepcopy(drawn)
                change = r.choice([exchange_handles, exchange_letters, exchange_sides, exchange_pipes, exchange_files])
                change(r, other)
                other.mend()
                changed = other.image()
                if changed != image and is_image(changed):
                    self.are_unlike(one, self.thawed(changed))
                    seen[change.__name__] = seen.get(change.__name__, 0) + 1
        self.assertEqual(len(seen), 5)
        self.assertGreater(min(seen.values()), 3, seen)


def two(r, values):
    return r.sample(values, 2) if len(values) > 1 else (None, None)


def exchange_handles(r, drawn):
    one, other = two(r, [(row["handles"], at) for row in drawn.alive() for at in row["handles"]])
    if one:
        (left, a), (right, b) = one, other
        left[a], right[b] = right[b], left[a]


def exchange_letters(r, drawn):
    rows = [thing.of.sides[thing.turn].letters for thing in drawn.things if thing.kind == "side"]
    one, other = two(r, [(row, at) for row in rows for at in range(len(row))])
    if one:
        (left, a), (right, b) = one, other
        left[a], right[b] = right[b], left[a]


def exchange_sides(r, drawn):
    one, other = two(r, [thing for thing in drawn.things if thing.kind == "side"])
    if one:
        one.of, other.of, one.turn, other.turn = other.of, one.of, other.turn, one.turn


def exchange_pipes(r, drawn):
    one, other = two(r, [thing for thing in drawn.things if thing.kind == "writes"])
    if one:
        one.of, other.of = other.of, one.of


def exchange_files(r, drawn):
    one, other = two(r, [thing for thing in drawn.things if thing.kind == "file"])
    if one:
        one.of, one.turn = other.of, min(one.turn, len(other.of.text))


class AlikeForEver(PartingCase):
    """Machines that are alike answer all further calls alike, and stay so."""

    def test_drawn_calls(self):
        for seed in range(30):
            r = random.Random(seed)
            files = [("log", "abc"), ("a", "")]
            image = Drawn(r, r.randint(1, 6), 8, files).image()
            bare = Machine(files)
            one = play(bare, plan(image, bare))
            other = play(bare, plan(image, bare))
            caller = Caller(seed, EVEN, 8)
            for _ in range(40):
                number = r.choice(one.numbers())
                handles = {at: None for at in dict(seen_handles(one)).get(number, ())}
                model = Numbers(one.numbers(), number, handles)
                call = caller.call(model, number)
                self.exact(made(other, number, call), made(one, number, call))
            self.are_alike(one, other)


def seen_handles(machine):
    return [(row[0], [at for at, _ in row[9]]) for row in state(machine)[0][0]]


class Numbers:
    """What a Caller asks a model for."""

    def __init__(self, numbers, number, handles):
        self.found, self.processes = numbers, {number: {"handles": handles}}

    def numbers(self):
        return self.found


class Large(PartingCase):
    """Machines at the bounds."""

    def test_24_processes_and_40_things(self):
        calls = [(1, ("pipe",))] * 10 + [(1, ("pair",))] * 8 + [(1, ("area",))] * 4
        for number in range(2, 25):
            calls.append((1, ("fork", number)))
            calls.append((number, ("lead",)))
        calls += [(1, ("write", handle, "x" * 8)) for handle in range(1, 20, 2)]
        calls += [(1, ("pass", handle, 39)) for handle in range(20, 36) for _ in range(4)]
        self.are_unlike(self.built(calls), self.built(calls, [(24, ("poke", 39, 3, 1))]))
        self.are_unlike(self.built(calls), self.built(calls, [(24, ("adopt",))]))
        exchange = [(24, ("copy", 1, 99)), (24, ("copy", 3, 1)), (24, ("copy", 99, 3)), (24, ("close", 99))]
        self.are_unlike(self.built(calls), self.built(calls, exchange))


if __name__ == "__main__":
    unittest.main()
