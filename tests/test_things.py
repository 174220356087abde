"""[6] things: cells, files, pipes, pairs, areas and handles."""

import unittest

from tests.helper import NONE, Case, refused, told
from treethaw.machine import Machine


class Things(Case):
    def machine(self, *rows):
        return self.setup_calls(Machine([("log", "abc"), ("b", "")]), rows)

    def one_of_each(self):
        """1 and 2 have an opening 0, ends 1 and 2 of a pipe, sides 3 and 4 of a pair, an area 5."""
        return self.machine((1, ("open", "log")), (1, ("pipe",)), (1, ("pair",)), (1, ("area",)), (1, ("fork", 2)))


class Cells(Things):
    def test_get_and_set(self):
        m = self.machine((1, ("fork", 2)))
        for cell in range(4):
            self.calls(m, [(2, ("get", cell), told(0)), (2, ("set", cell, cell - 2), NONE),
                           (2, ("get", cell), told(cell - 2)), (1, ("get", cell), told(0))])
        self.calls(m, [(2, ("set", 0, 10 ** 12), NONE), (2, ("get", 0), told(10 ** 12)), (2, ("get", 1), told(-1))])

    def test_place(self):
        m = self.machine()
        for cell in (4, 5, 10 ** 12):
            self.refuses(m, 1, ("get", cell), "place")
            self.refuses(m, 1, ("set", cell, 1), "place")


class Files(Things):
    def test_make(self):
        m = self.machine()
        self.refuses(m, 1, ("make", "log", "new"), "taken")
        self.refuses(m, 1, ("make", "b", ""), "taken")
        self.calls(m, [
            (1, ("make", "c", ""), NONE), (1, ("make", "d", "x y"), NONE), (1, ("open", "c"), told(0)),
            (1, ("open", "d"), told(1)), (1, ("read", 0, 9), told("")), (1, ("read", 1, 9), told("x y")),
            (1, ("make", "d", "x y"), refused("taken"))])

    def test_remove(self):
        m = self.machine()
        self.refuses(m, 1, ("remove", "c"), "no path")
        self.calls(m, [(1, ("remove", "log"), NONE), (1, ("remove", "log"), refused("no path")),
                       (1, ("open", "log"), refused("no path")), (1, ("open", "b"), told(0))])

    def test_files_last_without_a_path(self):
        m = self.machine((1, ("open", "log")), (1, ("remove", "log")), (1, ("make", "log", "new")),
                         (1, ("open", "log")))
        self.calls(m, [
            (1, ("read", 0, 9), told("abc")), (1, ("read", 1, 9), told("new")), (1, ("write", 0, "d"), told(1)),
            (1, ("seek", 0, 0), NONE), (1, ("seek", 1, 0), NONE), (1, ("read", 0, 9), told("abcd")),
            (1, ("read", 1, 9), told("new")), (1, ("remove", "log"), NONE), (1, ("seek", 1, 1), NONE),
            (1, ("read", 1, 9), told("ew"))])

    def test_files_last_in_letters(self):
        m = self.machine((1, ("open", "log")), (1, ("pair",)), (1, ("pass", 1, 0)), (1, ("close", 0)),
                         (1, ("remove", "log")), (1, ("fork", 2)))
        self.calls(m, [(2, ("take", 2), told(0)), (2, ("read", 0, 9), told("abc"))])

    def test_open(self):
        m = self.machine()
        self.refuses(m, 1, ("open", "c"), "no path")
        self.calls(m, [(1, ("open", "log"), told(0)), (1, ("open", "log"), told(1)), (1, ("read", 0, 2), told("ab")),
                       (1, ("read", 1, 1), told("a")), (1, ("same", 0, 1, 1), told(False))])

    def test_seek(self):
        m = self.one_of_each()
        self.refuses(m, 1, ("seek", 9, 99), "no handle")
        for handle in (1, 2, 3, 4, 5):
            self.refuses(m, 1, ("seek", handle, 99), "kind")
        self.refuses(m, 1, ("seek", 0, 4), "place")
        for place, rest in [(3, ""), (2, "c"), (1, "bc"), (0, "abc")]:
            self.calls(m, [(1, ("seek", 0, place), NONE), (2, ("read", 0, 9), told(rest))])

    def test_read(self):
        m = self.machine((1, ("open", "log")))
        self.calls(m, [(1, ("read", 0, 1), told("a")), (1, ("read", 0, 10 ** 12), told("bc")),
                       (1, ("read", 0, 1), told("")), (1, ("seek", 0, 1), NONE), (1, ("read", 0, 2), told("bc"))])

    def test_write(self):
        m = self.machine((1, ("open", "log")), (1, ("open", "log")))
        self.calls(m, [
            (1, ("read", 0, 1), told("a")), (1, ("write", 0, "X"), told(1)), (1, ("read", 0, 9), told("c")),
            (1, ("seek", 0, 2), NONE), (1, ("write", 0, "long, beyond"), told(12)), (1, ("read", 0, 1), told("")),
            (1, ("read", 1, 99), told("aXlong, beyond")), (1, ("write", 0, "!"), told(1)),
            (1, ("read", 1, 99), told("!")), (1, ("seek", 0, 15), NONE), (1, ("seek", 0, 16), refused("place"))])

    def test_write_to_the_end_and_to_the_empty_file(self):
        m = self.machine((1, ("open", "b")), (1, ("open", "log")))
        self.calls(m, [
            (1, ("write", 0, "123456789"), told(9)), (1, ("seek", 0, 0), NONE), (1, ("read", 0, 99), told("123456789")),
            (1, ("write", 1, "xyz"), told(3)), (1, ("seek", 1, 0), NONE), (1, ("read", 1, 99), told("xyz"))])

    def test_places_are_shared(self):
        m = self.machine((1, ("open", "log")), (1, ("fork", 2)), (2, ("copy", 0, 4)))
        self.calls(m, [
            (2, ("read", 4, 1), told("a")), (1, ("read", 0, 1), told("b")), (2, ("read", 0, 1), told("c")),
            (1, ("seek", 0, 1), NONE), (2, ("write", 4, "Z"), told(1)), (2, ("read", 0, 9), told("c")),
            (2, ("open", "log"), told(1)), (2, ("read", 1, 9), told("aZc"))])


class Handles(Things):
    def test_least_free_handles(self):
        m = self.machine((1, ("pipe",)), (1, ("pipe",)), (1, ("copy", 0, 6)))
        self.calls(m, [
            (1, ("handles",), told((0, 1, 2, 3, 6))), (1, ("close", 1), NONE), (1, ("pair",), told((1, 4))),
            (1, ("open", "log"), told(5)), (1, ("area",), told(7)), (1, ("close", 0), NONE), (1, ("close", 3), NONE),
            (1, ("handles",), told((1, 2, 4, 5, 6, 7))), (1, ("pipe",), told((0, 3))),
            (1, ("fork", 2), told(2)), (2, ("area",), told(8)), (1, ("area",), told(8))])

    def test_handles_of_another_are_free(self):
        m = self.machine((1, ("fork", 2)), (1, ("pipe",)))
        self.calls(m, [(2, ("handles",), told(())), (2, ("area",), told(0))])

    def test_copy(self):
        m = self.one_of_each()
        self.refuses(m, 1, ("copy", 9, 0), "no handle")
        self.refuses(m, 1, ("copy", 9, 9), "no handle")
        self.calls(m, [
            (1, ("copy", 5, 10 ** 12), told(10 ** 12)), (1, ("handles",), told((0, 1, 2, 3, 4, 5, 10 ** 12))),
            (1, ("same", 5, 1, 10 ** 12), told(True)), (1, ("copy", 5, 0), told(0)), (1, ("peek", 0, 0), told(0)),
            (1, ("same", 0, 2, 5), told(True)), (2, ("read", 0, 1), told("a"))])

    def test_copy_closes_first(self):
        m = self.machine((1, ("pipe",)), (1, ("pipe",)))
        self.calls(m, [(1, ("copy", 2, 0), told(0)), (1, ("write", 1, "a"), refused("alone")),
                       (1, ("write", 3, "a"), told(1)), (1, ("read", 0, 1), told("a"))])

    def test_copy_onto_itself(self):
        m = self.machine((1, ("pipe",)), (1, ("write", 1, "ab")))
        self.calls(m, [(1, ("copy", 0, 0), told(0)), (1, ("write", 1, "c"), told(1)), (1, ("read", 0, 9), told("abc")),
                       (1, ("handles",), told((0, 1)))])

    def test_copy_onto_the_same_thing(self):
        m = self.machine((1, ("pipe",)), (1, ("copy", 0, 5)))
        self.calls(m, [(1, ("copy", 0, 5), told(5)), (1, ("copy", 5, 0), told(0)), (1, ("same", 0, 1, 5), told(True)),
                       (1, ("write", 1, "x"), told(1)), (1, ("read", 5, 2), told("x"))])

    def test_close(self):
        m = self.machine((1, ("pipe",)), (1, ("fork", 2)))
        self.refuses(m, 1, ("close", 2), "no handle")
        self.calls(m, [(1, ("close", 0), NONE), (1, ("close", 0), refused("no handle")), (1, ("handles",), told((1,))),
                       (2, ("handles",), told((0, 1))), (1, ("close", 1), NONE), (1, ("handles",), told(()))])

    def test_same(self):
        m = self.one_of_each()
        self.setup_calls(m, [(1, ("fork", 3)), (3, ("end", 0))])
        self.refuses(m, 1, ("same", 9, 77, 9), "no handle")
        for who in (0, 3, 77, 200):
            self.refuses(m, 1, ("same", 0, who, 0), "no process")
        self.refuses(m, 1, ("same", 0, 2, 9), "no handle")
        for handle in range(6):
            for other in range(6):
                self.calls(m, [(1, ("same", handle, 2, other), told(handle == other))])
        self.calls(m, [(1, ("same", 1, 1, 1), told(True)), (1, ("same", 1, 1, 2), told(False))])

    def test_same_with_waiting_and_stopped_ones(self):
        m = self.one_of_each()
        self.setup_calls(m, [(2, ("read", 1, 1)), (1, ("fork", 3)), (1, ("send", "stop", 3))])
        self.calls(m, [(1, ("same", 5, 2, 5), told(True)), (1, ("same", 5, 3, 4), told(False))])


class Areas(Things):
    def test_refusals(self):
        m = self.one_of_each()
        for call in (("peek",), ("poke",)):
            value = (1,) if call == ("poke",) else ()
            self.refuses(m, 1, call + (9, 9) + value, "no handle")
            for handle in range(5):
                self.refuses(m, 1, call + (handle, 9) + value, "kind")
            self.refuses(m, 1, call + (5, 4) + value, "place")

    def test_cells_are_shared(self):
        m = self.one_of_each()
        self.calls(m, [(1, ("peek", 5, cell), told(0)) for cell in range(4)])
        self.calls(m, [
            (2, ("poke", 5, 3, -9), NONE), (1, ("peek", 5, 3), told(-9)), (1, ("get", 3), told(0)),
            (1, ("area",), told(6)), (1, ("peek", 6, 3), told(0)), (1, ("poke", 5, 0, 10 ** 12), NONE),
            (2, ("peek", 5, 0), told(10 ** 12)), (2, ("peek", 5, 1), told(0))])


class Pipes(Things):
    def test_refusals(self):
        m = self.one_of_each()
        self.refuses(m, 1, ("read", 9, 1), "no handle")
        self.refuses(m, 1, ("write", 9, "x" * 9), "no handle")
        for handle in (2, 5):
            self.refuses(m, 1, ("read", handle, 1), "kind")
        for handle in (1, 5):
            self.refuses(m, 1, ("write", handle, "x" * 9), "kind")

    def test_long_before_alone(self):
        m = self.machine((1, ("pipe",)), (1, ("pair",)), (1, ("close", 0)), (1, ("close", 2)))
        for handle in (1, 3):
            self.refuses(m, 1, ("write", handle, "123456789"), "long")
            self.refuses(m, 1, ("write", handle, "12345678"), "alone")

    def test_room(self):
        m = self.machine((1, ("pipe",)))
        self.refuses(m, 1, ("write", 1, "123456789"), "long")
        self.calls(m, [
            (1, ("write", 1, "12345678"), told(8)), (1, ("write", 1, "a"), refused("first")),
            (1, ("read", 0, 3), told("123")), (1, ("write", 1, "abcd"), refused("first")),
            (1, ("write", 1, "abc"), told(3)), (1, ("read", 0, 99), told("45678abc"))])

    def test_reads_take_out(self):
        m = self.machine((1, ("pipe",)), (1, ("fork", 2)), (2, ("write", 1, "abcde")))
        self.calls(m, [(1, ("read", 0, 1), told("a")), (2, ("read", 0, 2), told("bc")), (1, ("read", 0, 2), told("de")),
                       (1, ("read", 0, 1), refused("first"))])

    def test_no_writing_end(self):
        m = self.machine((1, ("pipe",)), (1, ("write", 1, "abc")), (1, ("close", 1)))
        self.calls(m, [(1, ("read", 0, 2), told("ab")), (1, ("read", 0, 2), told("c")), (1, ("read", 0, 2), told("")),
                       (1, ("read", 0, 2), told(""))])

    def test_no_reading_end(self):
        m = self.machine((1, ("pipe",)), (1, ("fork", 2)), (1, ("close", 0)))
        self.calls(m, [(1, ("write", 1, "a"), told(1)), (2, ("end", 0), NONE),
                       (1, ("write", 1, "a"), refused("alone"))])


class Pairs(Things):
    def test_refusals_of_pass(self):
        m = self.one_of_each()
        self.setup_calls(m, [(1, ("pair",)), (1, ("close", 7))])
        self.refuses(m, 1, ("pass", 9, 9), "no handle")
        for handle in (0, 1, 2, 5):
            self.refuses(m, 1, ("pass", handle, 9), "kind")
        self.refuses(m, 1, ("pass", 3, 9), "no handle")
        self.refuses(m, 1, ("pass", 6, 9), "no handle")
        self.refuses(m, 1, ("pass", 6, 0), "alone")

    def test_refusals_of_take(self):
        m = self.one_of_each()
        self.refuses(m, 1, ("take", 9), "no handle")
        for handle in (0, 1, 2, 5):
            self.refuses(m, 1, ("take", handle), "kind")
        self.refuses(m, 1, ("take", 3), "first")
        self.refuses(m, 1, ("read", 3, 1), "first")

    def test_texts_both_ways(self):
        m = self.machine((1, ("pair",)), (1, ("fork", 2)))
        self.calls(m, [
            (1, ("write", 0, "12345678"), told(8)), (1, ("write", 0, "b"), told(1)), (2, ("write", 1, "back"), told(4)),
            (1, ("read", 1, 1), told("12345678")), (2, ("read", 0, 99), told("back")), (2, ("read", 1, 1), told("b"))])
        self.refuses(m, 1, ("write", 0, "123456789"), "long")

    def test_rows_of_letters(self):
        m = self.machine((1, ("pair",)))
        for text in ("a", "b", "c", "d"):
            self.calls(m, [(1, ("write", 0, text), told(1))])
        self.refuses(m, 1, ("write", 0, "e"), "first")
        self.refuses(m, 1, ("pass", 0, 0), "first")
        self.calls(m, [(1, ("write", 1, "back"), told(4)), (1, ("read", 1, 1), told("a")), (1, ("pass", 0, 1), NONE)])
        self.refuses(m, 1, ("write", 0, "e"), "first")

    def test_things_as_letters(self):
        m = self.one_of_each()
        self.calls(m, [(1, ("pass", 3, what), NONE) for what in (0, 1, 2, 5)])
        self.setup_calls(m, [(2, ("close", what)) for what in (0, 1, 2, 5)])
        self.calls(m, [
            (2, ("take", 4), told(0)), (2, ("take", 4), told(1)), (2, ("take", 4), told(2)), (2, ("take", 4), told(5)),
            (2, ("same", 0, 1, 0), told(True)), (2, ("same", 1, 1, 1), told(True)), (2, ("same", 2, 1, 2), told(True)),
            (2, ("same", 5, 1, 5), told(True)), (2, ("read", 0, 9), told("abc")), (1, ("read", 0, 9), told(""))])

    def test_sides_as_letters(self):
        m = self.machine((1, ("pair",)), (1, ("pass", 0, 0)), (1, ("pass", 0, 1)), (1, ("close", 0)))
        self.calls(m, [
            (1, ("write", 1, "hi"), told(2)), (1, ("take", 1), told(0)), (1, ("take", 1), told(2)),
            (1, ("same", 1, 1, 2), told(True)), (1, ("read", 0, 1), told("hi"))])

    def test_letter(self):
        m = self.machine((1, ("pair",)), (1, ("write", 0, "a")), (1, ("pass", 0, 1)))
        self.refuses(m, 1, ("take", 1), "letter")
        self.calls(m, [(1, ("read", 1, 1), told("a"))])
        self.refuses(m, 1, ("read", 1, 1), "letter")
        self.calls(m, [(1, ("take", 1), told(2)), (1, ("same", 1, 1, 2), told(True))])

    def test_alone(self):
        m = self.machine((1, ("pair",)), (1, ("write", 0, "a")), (1, ("pass", 0, 1)), (1, ("close", 0)))
        self.calls(m, [
            (1, ("write", 1, "a"), refused("alone")), (1, ("pass", 1, 1), refused("alone")),
            (1, ("read", 1, 1), told("a")), (1, ("take", 1), told(0)), (1, ("read", 1, 1), told("")),
            (1, ("take", 1), NONE), (1, ("handles",), told((0, 1)))])


if __name__ == "__main__":
    unittest.main()
