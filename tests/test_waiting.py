"""[8] waiting: rows, who is answered, and in which order."""

import unittest

from tests.helper import NONE, WAITS, WOKEN, Case, refused, told
from treethaw.machine import Machine


def waits(place, *call):
    return told((1, 1, "waits", place, call))


def stopped(place, *call):
    return told((1, 1, "stopped", place, call))


class Waiting(Case):
    def machine(self, what, numbers, *rows):
        """The first process makes a pipe or a pair, with handles 0 and 1, and forks these numbers."""
        m = self.setup_calls(Machine(), [(1, (what,))] + [(1, ("fork", number)) for number in numbers])
        return self.setup_calls(m, rows)


class First(Waiting):
    def test_reads(self):
        m = self.machine("pipe", [])
        self.refuses(m, 1, ("read", 0, 1), "first")
        m = self.machine("pair", [])
        for handle in (0, 1):
            self.refuses(m, 1, ("read", handle, 1), "first")
            self.refuses(m, 1, ("take", handle), "first")

    def test_writes(self):
        m = self.machine("pipe", [], (1, ("write", 1, "1234567")))
        self.refuses(m, 1, ("write", 1, "12"), "first")
        m = self.machine("pair", [], *[(1, ("write", 1, "a"))] * 4)
        self.refuses(m, 1, ("write", 1, "a"), "first")
        self.refuses(m, 1, ("pass", 1, 1), "first")

    def test_behind_others(self):
        m = self.machine("pipe", [2], (1, ("write", 1, "12345")), (2, ("write", 1, "1234")))
        self.refuses(m, 1, ("write", 1, "a"), "first")
        m = self.machine("pipe", [2], (2, ("read", 0, 1)))
        self.refuses(m, 1, ("read", 0, 1), "first")

    def test_past_stopped_ones(self):
        m = self.machine("pipe", [2], (1, ("write", 1, "12345")), (2, ("write", 1, "1234")), (1, ("send", "stop", 2)))
        self.calls(m, [(1, ("write", 1, "a"), told(1)), (1, ("read", 0, 9), told("12345a")),
                       (1, ("send", "go", 2), NONE, [(2, told(4))])])

    def test_child(self):
        m = self.machine("pipe", [2])
        self.refuses(m, 1, ("wait", 0), "first")
        self.refuses(m, 1, ("wait", 2), "first")


class Rows(Waiting):
    def test_first_come_first_served(self):
        m = self.machine("pipe", [2, 3, 4], (4, ("read", 0, 2)), (2, ("read", 0, 1)), (3, ("read", 0, 9)))
        self.calls(m, [
            (1, ("about", 4), waits(0, "read", 0, 2)), (1, ("about", 2), waits(1, "read", 0, 1)),
            (1, ("about", 3), waits(2, "read", 0, 9)), (1, ("write", 1, "a"), told(1), [(4, told("a"))]),
            (1, ("about", 2), waits(0, "read", 0, 1)), (1, ("about", 3), waits(1, "read", 0, 9)),
            (1, ("write", 1, "bcd"), told(3), [(2, told("b")), (3, told("cd"))])])

    def test_two_rows_of_a_pipe(self):
        m = self.machine("pipe", [2, 3, 4, 5], (1, ("write", 1, "12345678")), (2, ("write", 1, "abc")),
                         (3, ("write", 1, "d")))
        self.calls(m, [(1, ("about", 2), waits(0, "write", 1, "abc")), (1, ("about", 3), waits(1, "write", 1, "d")),
                       (4, ("read", 0, 2), told("12")), (4, ("read", 0, 1), told("3"), [(2, told(3))]),
                       (1, ("about", 3), waits(0, "write", 1, "d")),
                       (4, ("read", 0, 5), told("45678"), [(3, told(1))]), (4, ("read", 0, 9), told("abcd"))])

    def test_four_rows_of_a_pair(self):
        m = self.machine("pair", [2, 3, 4, 5, 6], (2, ("read", 0, 1)), (3, ("take", 1)), (4, ("take", 0)))
        self.calls(m, [
            (1, ("about", 2), waits(0, "read", 0, 1)), (1, ("about", 3), waits(0, "take", 1)),
            (1, ("about", 4), waits(1, "take", 0)), (1, ("write", 1, "x"), told(1), [(2, told("x"))]),
            (1, ("pass", 1, 1), NONE, [(4, told(2))]), (1, ("about", 3), waits(0, "take", 1)),
            (1, ("pass", 0, 1), NONE, [(3, told(2))])])
        m = self.machine("pair", [2, 3, 4, 5], *[(1, ("write", at, "a")) for at in (0, 1) for _ in range(4)])
        self.calls(m, [
            (2, ("write", 0, "b"), WAITS), (3, ("pass", 1, 0), WAITS), (4, ("pass", 0, 1), WAITS),
            (1, ("about", 2), waits(0, "write", 0, "b")), (1, ("about", 3), waits(0, "pass", 1, 0)),
            (1, ("about", 4), waits(1, "pass", 0, 1)), (5, ("read", 0, 1), told("a"), [(3, NONE)]),
            (5, ("read", 1, 1), told("a"), [(2, told(1))]), (5, ("read", 1, 1), told("a"), [(4, NONE)])])

    def test_a_call_that_could_be_answered_waits_behind(self):
        m = self.machine("pipe", [2, 3], (1, ("write", 1, "12345")), (2, ("write", 1, "6789")))
        self.calls(m, [(3, ("write", 1, "a"), WAITS), (1, ("about", 3), waits(1, "write", 1, "a")),
                       (1, ("read", 0, 1), told("1"), [(2, told(4))]), (1, ("read", 0, 1), told("2"), [(3, told(1))]),
                       (1, ("read", 0, 9), told("3456789a"))])

    def test_exact_room(self):
        m = self.machine("pipe", [2, 3], (1, ("write", 1, "123")), (2, ("write", 1, "45678")),
                         (3, ("write", 1, "12345678")))
        self.calls(m, [(1, ("read", 0, 7), told("1234567")), (1, ("read", 0, 7), told("8"), [(3, told(8))])])

    def test_alone_is_told_at_once_behind_stopped_ones(self):
        m = self.machine("pipe", [2, 3], (1, ("write", 1, "12345678")), (2, ("close", 0)), (3, ("close", 0)),
                         (2, ("write", 1, "a")), (1, ("send", "stop", 2)), (1, ("close", 0)))
        self.calls(m, [(3, ("write", 1, "a"), refused("alone")), (1, ("about", 2), stopped(0, "write", 1, "a"))])
        m = self.machine("pair", [2, 3], *[(1, ("write", 0, "a"))] * 4)
        self.setup_calls(m, [(2, ("close", 1)), (3, ("close", 1)), (2, ("write", 0, "b")), (1, ("send", "stop", 2)),
                             (1, ("close", 1))])
        self.calls(m, [(3, ("write", 0, "c"), refused("alone")), (3, ("pass", 0, 0), refused("alone")),
                       (1, ("about", 2), stopped(0, "write", 0, "b")),
                       (1, ("send", "go", 2), NONE, [(2, refused("alone"))])])


class Stopped(Waiting):
    def test_passed_and_kept_in_place(self):
        m = self.machine("pipe", [2, 3, 4], (2, ("read", 0, 1)), (3, ("read", 0, 1)), (4, ("read", 0, 1)),
                         (1, ("send", "stop", 2)))
        self.calls(m, [
            (1, ("about", 2), stopped(0, "read", 0, 1)), (1, ("about", 3), waits(1, "read", 0, 1)),
            (1, ("write", 1, "a"), told(1), [(3, told("a"))]), (1, ("about", 4), waits(1, "read", 0, 1)),
            (1, ("send", "go", 2), NONE), (1, ("write", 1, "b"), told(1), [(2, told("b"))]),
            (1, ("about", 4), waits(0, "read", 0, 1))])

    def test_go_lets_it_be_answered(self):
        m = self.machine("pipe", [2, 3], (2, ("read", 0, 1)), (1, ("send", "stop", 2)), (1, ("write", 1, "ab")))
        self.calls(m, [(3, ("read", 0, 1), told("a")), (1, ("send", "go", 2), NONE, [(2, told("b"))])])

    def test_all_stopped(self):
        m = self.machine("pipe", [2, 3], (2, ("read", 0, 1)), (3, ("read", 0, 1)), (1, ("send", "stop", 2)),
                         (1, ("send", "stop", 3)), (1, ("write", 1, "abc")))
        self.calls(m, [(1, ("sendall", "go", 1), told(2), [(2, told("a")), (3, told("b"))])])

    def test_stop_of_the_first_lets_the_next_be_answered(self):
        m = self.machine("pipe", [2, 3, 4], (1, ("write", 1, "123456")), (2, ("write", 1, "789")),
                         (3, ("write", 1, "a")),
                         (4, ("write", 1, "b")))
        self.calls(m, [(1, ("send", "stop", 2), NONE, [(3, told(1)), (4, told(1))]),
                       (1, ("read", 0, 9), told("123456ab")), (1, ("send", "go", 2), NONE, [(2, told(3))])])

    def test_a_stopped_one_in_front_does_not_keep_others_waiting(self):
        m = self.machine("pipe", [2, 3], (1, ("write", 1, "123456")), (2, ("write", 1, "789")),
                         (1, ("send", "stop", 2)))
        self.calls(m, [(3, ("write", 1, "ab"), told(2)), (3, ("write", 1, "c"), WAITS),
                       (1, ("about", 3), waits(1, "write", 1, "c"))])

    def test_a_waiting_one_behind_a_stopped_one_keeps_others_waiting(self):
        m = self.machine("pipe", [2, 3, 4], (1, ("write", 1, "123456")), (2, ("write", 1, "789")),
                         (1, ("send", "stop", 2)), (3, ("write", 1, "abc")))
        self.calls(m, [(4, ("write", 1, "x"), WAITS), (1, ("about", 4), waits(2, "write", 1, "x")),
                       (1, ("read", 0, 1), told("1"), [(3, told(3))]),
                       (1, ("read", 0, 9), told("23456abc"), [(4, told(1))])])


class Leaving(Waiting):
    def blocked(self):
        """2 waits with a long text, 3 with a short one that would fit."""
        return self.machine("pipe", [2, 3], (1, ("write", 1, "123456")), (2, ("write", 1, "789")),
                            (3, ("write", 1, "ab")))

    def test_wake(self):
        m = self.blocked()
        self.calls(m, [(1, ("send", "wake", 2), NONE, [(2, WOKEN), (3, told(2))]),
                       (1, ("read", 0, 9), told("123456ab")),
                       (1, ("about", 2), told((1, 1, "runs", None, None)))])

    def test_end(self):
        m = self.blocked()
        self.calls(m, [(1, ("send", "end", 2), NONE, [(3, told(2))]), (1, ("wait", 2), told((2, -1))),
                       (1, ("read", 0, 9), told("123456ab"))])

    def test_wake_of_the_one_behind(self):
        m = self.blocked()
        self.calls(m, [(1, ("send", "wake", 3), NONE, [(3, WOKEN)]), (1, ("read", 0, 1), told("1"), [(2, told(3))]),
                       (1, ("read", 0, 9), told("23456789"))])

    def test_woken_ones_wait_at_the_end_again(self):
        m = self.machine("pipe", [2, 3], (2, ("read", 0, 1)), (3, ("read", 0, 1)))
        self.calls(m, [(1, ("send", "wake", 2), NONE, [(2, WOKEN)]), (2, ("read", 0, 1), WAITS),
                       (1, ("about", 2), waits(1, "read", 0, 1)), (1, ("write", 1, "a"), told(1), [(3, told("a"))])])

    def test_a_woken_pass_passes_nothing(self):
        m = self.machine("pair", [2], *[(1, ("write", 0, "a"))] * 4)
        self.setup_calls(m, [(2, ("pass", 0, 0))])
        self.calls(m, [(1, ("send", "wake", 2), NONE, [(2, WOKEN)])])
        self.calls(m, [(1, ("read", 1, 1), told("a"))] * 4 + [(1, ("read", 1, 1), refused("first"))])


class Order(Waiting):
    def test_takes_before_puts(self):
        # The stopped reader empties the pipe before the writer's text comes in.
        m = self.machine("pipe", [2, 3], (2, ("read", 0, 99)), (1, ("send", "stop", 2)), (1, ("write", 1, "1234567")),
                         (3, ("write", 1, "ab")))
        self.calls(m, [(1, ("send", "go", 2), NONE, [(2, told("1234567")), (3, told(2))])])

    def test_takes_go_on_before_puts(self):
        m = self.machine("pipe", [2, 3, 4, 5], (4, ("read", 0, 99)), (2, ("read", 0, 99)), (1, ("send", "stop", 4)),
                         (1, ("send", "stop", 2)), (1, ("write", 1, "1234")), (3, ("write", 1, "56789")),
                         (5, ("write", 1, "a")))
        self.calls(m, [(1, ("send", "go", 2), NONE, [(2, told("1234")), (3, told(5)), (5, told(1))]),
                       (1, ("send", "go", 4), NONE, [(4, told("56789a"))])])

    def test_a_put_that_goes_on_serves_those_that_take(self):
        m = self.machine("pipe", [2, 3, 4], (1, ("write", 1, "1234567")), (3, ("write", 1, "ab")),
                         (1, ("send", "stop", 3)), (1, ("read", 0, 99)), (4, ("read", 0, 1)), (2, ("read", 0, 5)))
        self.calls(m, [(1, ("send", "go", 3), NONE, [(2, told("b")), (3, told(2)), (4, told("a"))])])

    def test_letters_are_taken_before_letters_are_put(self):
        m = self.machine("pair", [2, 3, 4, 5], (2, ("read", 1, 1)), (1, ("send", "stop", 2)),
                         *[(1, ("write", 0, text)) for text in "abcd"])
        self.setup_calls(m, [(3, ("write", 0, "e")), (4, ("pass", 0, 0))])
        self.calls(m, [
            (1, ("send", "go", 2), NONE, [(2, told("a")), (3, told(1))]), (5, ("read", 1, 1), told("b"), [(4, NONE)]),
            (5, ("read", 1, 1), told("c")), (5, ("read", 1, 1), told("d")), (5, ("read", 1, 1), told("e")),
            (5, ("take", 1), told(2))])

    def test_many_reads_of_one_write(self):
        m = self.machine("pipe", [2, 3, 4, 5], *[(number, ("read", 0, 3)) for number in (5, 3, 4, 2)])
        self.calls(m, [(1, ("write", 1, "12345678"), told(8), [(3, told("456")), (4, told("78")), (5, told("123"))]),
                       (1, ("about", 2), waits(0, "read", 0, 3))])

    def test_one_read_lets_many_writes_in(self):
        m = self.machine("pipe", [2, 3, 4, 5], (1, ("write", 1, "12345678")), (5, ("write", 1, "aa")),
                         (4, ("write", 1, "bbb")), (2, ("write", 1, "cccc")), (3, ("write", 1, "d")))
        self.calls(m, [(1, ("read", 0, 5), told("12345"), [(4, told(3)), (5, told(2))]),
                       (1, ("read", 0, 9), told("678aabbb"), [(2, told(4)), (3, told(1))]),
                       (1, ("read", 0, 9), told("ccccd"))])

    def test_chains_of_reads_and_writes(self):
        m = self.machine("pipe", [2, 3, 4, 5], (4, ("read", 0, 8)), (5, ("read", 0, 8)), (1, ("send", "stop", 4)),
                         (1, ("send", "stop", 5)), (1, ("write", 1, "12345678")), (2, ("write", 1, "abcdefgh")),
                         (3, ("write", 1, "ijk")))
        self.calls(m, [(1, ("sendall", "go", 1), told(4),
                        [(2, told(8)), (3, told(3)), (4, told("12345678")), (5, told("abcdefgh"))]),
                       (1, ("read", 0, 9), told("ijk"))])


class Refusals(Waiting):
    def test_alone_behind_a_wait(self):
        m = self.machine("pipe", [2, 3], (1, ("write", 1, "12345678")))
        self.setup_calls(m, [(2, ("close", 0)), (3, ("close", 0)), (2, ("write", 1, "a")), (3, ("write", 1, "b"))])
        self.calls(m, [(1, ("close", 0), NONE, [(2, refused("alone")), (3, refused("alone"))])])

    def test_alone_behind_a_wait_of_a_side(self):
        m = self.machine("pair", [2, 3, 4], *[(1, ("write", 0, "a"))] * 4)
        self.setup_calls(m, [(number, ("close", 1)) for number in (2, 3)])
        self.setup_calls(m, [(2, ("pass", 0, 0)), (3, ("write", 0, "b")), (4, ("close", 1)), (4, ("read", 0, 1))])
        self.calls(m, [(1, ("close", 1), NONE, [(2, refused("alone")), (3, refused("alone")), (4, told(""))])])

    def test_letter_behind_a_wait(self):
        m = self.machine("pair", [2, 3, 4], (2, ("take", 0)), (4, ("read", 0, 1)), (3, ("read", 0, 1)))
        self.calls(m, [(1, ("write", 1, "a"), told(1), [(2, refused("letter")), (4, told("a"))]),
                       (1, ("pass", 1, 1), NONE, [(3, refused("letter"))]), (2, ("take", 0), told(2))])

    def test_letter_waits_behind_the_row(self):
        m = self.machine("pair", [2, 3], (2, ("take", 0)), (3, ("read", 0, 1)))
        self.calls(m, [(1, ("about", 3), waits(1, "read", 0, 1)),
                       (1, ("pass", 1, 1), NONE, [(2, told(2))]), (1, ("about", 3), waits(0, "read", 0, 1)),
                       (1, ("pass", 1, 1), NONE, [(3, refused("letter"))]), (1, ("take", 0), told(2))])

    def test_the_end_is_told_behind_a_wait(self):
        m = self.machine("pipe", [2, 3], (2, ("close", 1)), (3, ("close", 1)), (2, ("read", 0, 1)), (3, ("read", 0, 1)))
        self.calls(m, [(1, ("write", 1, "a"), told(1), [(2, told("a"))]), (1, ("close", 1), NONE, [(3, told(""))])])

    def test_nothing_is_told_behind_a_take(self):
        m = self.machine("pair", [2, 3], (2, ("close", 1)), (3, ("close", 1)), (2, ("take", 0)), (3, ("read", 0, 1)))
        self.calls(m, [(1, ("close", 1), NONE, [(2, NONE), (3, told(""))])])

    def test_stopped_ones_are_refused_later(self):
        m = self.machine("pipe", [2], (1, ("write", 1, "12345678")))
        self.setup_calls(m, [(2, ("close", 0)), (2, ("write", 1, "a")), (1, ("send", "stop", 2)), (1, ("close", 0))])
        self.calls(m, [(1, ("about", 2), stopped(0, "write", 1, "a")),
                       (1, ("send", "go", 2), NONE, [(2, refused("alone"))])])


class Sendall(Waiting):
    def test_stop_answers_in_between(self):
        # 3 is answered when 2 is stopped, before it is stopped itself.
        m = self.machine("pipe", [2, 3], (1, ("write", 1, "12345")), (2, ("write", 1, "6789")), (3, ("write", 1, "x")))
        self.calls(m, [(1, ("sendall", "stop", 1), told(2), [(3, told(1))]),
                       (1, ("about", 3), told((1, 1, "stopped", None, None))),
                       (1, ("about", 2), stopped(0, "write", 1, "6789"))])

    def test_stop_in_the_other_order(self):
        m = self.machine("pipe", [2, 3], (1, ("write", 1, "12345")), (3, ("write", 1, "6789")), (2, ("write", 1, "x")))
        self.calls(m, [(1, ("sendall", "stop", 1), told(2)), (1, ("about", 2), stopped(1, "write", 1, "x")),
                       (1, ("about", 3), stopped(0, "write", 1, "6789"))])

    def test_wake_answers_in_between(self):
        m = self.machine("pipe", [2, 3, 4], (1, ("write", 1, "12345")), (2, ("write", 1, "6789")),
                         (4, ("write", 1, "abc")), (3, ("write", 1, "d")))
        self.calls(m, [(1, ("sendall", "wake", 1), told(3), [(2, WOKEN), (3, WOKEN), (4, told(3))]),
                       (1, ("read", 0, 9), told("12345abc"))])

    def test_end_answers_those_that_end_behind_that(self):
        m = self.machine("pipe", [2, 3], (1, ("write", 1, "12345")), (2, ("write", 1, "6789")), (3, ("write", 1, "x")))
        self.calls(m, [(1, ("sendall", "end", 1), told(2), [(3, told(1))]), (1, ("read", 0, 9), told("12345x")),
                       (1, ("wait", 0), told((2, -1))), (1, ("wait", 0), told((3, -1)))])

    def test_a_parent_is_told_and_ends_behind_that(self):
        m = self.machine("pipe", [5], (5, ("join", 5, 5)), (5, ("fork", 3)), (5, ("wait", 0)))
        self.calls(m, [(1, ("sendall", "end", 5), told(2), [(5, told((3, -1)))]), (1, ("wait", 0), told((5, -1))),
                       (1, ("wait", 0), refused("no child"))])
        self.exact(m.numbers(), [1])

    def test_end_by_the_caller_itself(self):
        m = self.machine("pipe", [2, 3, 4], (4, ("close", 1)), (4, ("join", 4, 4)), (4, ("read", 0, 1)),
                         (1, ("close", 1)))
        self.calls(m, [(3, ("sendall", "end", 1), told(2), [(4, told(""))])])

    def test_go_answers_in_between(self):
        # 2 reads all before the write of 3 can come in, which 3 starts again only behind that.
        m = self.machine("pipe", [2, 3], (1, ("write", 1, "1234567")), (3, ("write", 1, "ab")),
                         (1, ("send", "stop", 3)))
        self.setup_calls(m, [(1, ("read", 0, 99)), (2, ("read", 0, 99)), (1, ("send", "stop", 2)),
                             (1, ("write", 1, "xy"))])
        self.calls(m, [(1, ("sendall", "go", 1), told(2), [(2, told("xy")), (3, told(2))]),
                       (1, ("read", 0, 9), told("ab"))])


class Others(Waiting):
    def test_ascending(self):
        m = self.machine("pipe", [9, 4, 30, 7], *[(number, ("read", 0, 1)) for number in (30, 4, 9, 7)])
        self.calls(m, [(1, ("write", 1, "abcd"), told(4),
                        [(4, told("b")), (7, told("d")), (9, told("c")), (30, told("a"))])])

    def test_several_rows_at_once(self):
        m = self.machine("pipe", [9], (1, ("pair",)), (1, ("fork", 2)), (1, ("fork", 3)), (1, ("fork", 4)),
                         (1, ("fork", 5)), (9, ("end", 0)))
        for number in (3, 4):
            self.setup_calls(m, [(number, ("close", handle)) for handle in (1, 3)])
        self.setup_calls(m, [(4, ("read", 0, 1)), (3, ("take", 2)), (1, ("close", 1)), (1, ("close", 3)),
                             (5, ("close", 1)), (5, ("close", 3)), (5, ("fork", 6)), (5, ("wait", 0))])
        self.calls(m, [(2, ("end", 0), NONE, [(3, NONE), (4, told(""))]), (6, ("end", 1), NONE, [(5, told((6, 1)))])])

    def test_a_parent_is_told_of_an_end(self):
        m = self.machine("pipe", [2], (2, ("fork", 3)), (2, ("fork", 4)), (2, ("wait", 0)), (3, ("read", 0, 1)),
                         (4, ("close", 1)), (1, ("close", 1)))
        self.calls(m, [(1, ("send", "end", 3), NONE, [(2, told((3, -1)))]), (2, ("wait", 3), refused("no child"))])

    def test_the_last_writer_ends(self):
        m = self.machine("pipe", [2, 3], (2, ("close", 1)), (2, ("read", 0, 4)), (1, ("close", 1)))
        self.calls(m, [(3, ("end", 0), NONE, [(2, told(""))])])


if __name__ == "__main__":
    unittest.main()
