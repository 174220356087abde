"""[7] what is held."""

import unittest

from tests.helper import NONE, WAITS, Case, refused, told
from treethaw.machine import Machine


class Held(Case):
    def machine(self, *rows):
        return self.setup_calls(Machine([("log", "abc")]), rows)

    def test_by_handles_of_waiting_and_stopped_ones(self):
        m = self.machine((1, ("pipe",)), (1, ("pipe",)), (1, ("fork", 2)), (1, ("fork", 3)), (2, ("read", 0, 1)),
                         (1, ("send", "stop", 3)), (1, ("close", 0)), (1, ("close", 3)))
        self.calls(m, [
            (1, ("write", 1, "ab"), told(2), [(2, told("a"))]), (1, ("read", 2, 1), refused("first")),
            (2, ("end", 0), NONE), (1, ("read", 2, 1), refused("first")), (1, ("send", "end", 3), NONE),
            (1, ("read", 2, 1), told("")), (1, ("write", 1, "a"), refused("alone"))])

    def test_an_end_only_in_a_letter(self):
        m = self.machine((1, ("pipe",)), (1, ("pair",)), (1, ("pass", 2, 0)), (1, ("close", 0)))
        self.calls(m, [
            (1, ("write", 1, "ab"), told(2)), (1, ("take", 3), told(0)), (1, ("read", 0, 1), told("a")),
            (1, ("pass", 2, 0), NONE), (1, ("close", 0), NONE), (1, ("write", 1, "c"), told(1)),
            (1, ("close", 3), NONE), (1, ("write", 1, "d"), refused("alone"))])

    def test_a_writing_end_only_in_a_letter(self):
        m = self.machine((1, ("pipe",)), (1, ("pair",)), (1, ("pass", 2, 1)), (1, ("close", 1)), (1, ("fork", 2)),
                         (1, ("close", 3)), (1, ("close", 2)))
        self.calls(m, [
            (1, ("fork", 3), told(3)), (3, ("read", 0, 5), WAITS), (2, ("close", 2), NONE),
            (2, ("close", 3), NONE, [(3, told(""))])])

    def test_two_rows_deep(self):
        # The reading end lies in the row of a side that lies in the row of another side.
        m = self.machine((1, ("pipe",)), (1, ("pair",)), (1, ("pair",)), (1, ("pass", 2, 0)), (1, ("pass", 4, 3)),
                         (1, ("close", 0)), (1, ("close", 3)), (1, ("fork", 2)), (2, ("write", 1, "12345678")),
                         (2, ("write", 1, "9")))
        self.calls(m, [(1, ("close", 5), NONE), (1, ("about", 2), told((1, 1, "waits", 0, ("write", 1, "9")))),
                       (1, ("write", 2, "x"), told(1))])
        twin = m.twin()
        self.calls(twin, [(1, ("send", "wake", 2), NONE, [(2, ("woken",))]), (2, ("take", 5), told(0)),
                          (2, ("take", 0), told(3)), (2, ("read", 3, 9), told("12345678"))])
        self.calls(m, [(1, ("fork", 3), told(3)), (3, ("write", 1, "z"), WAITS),
                       (1, ("send", "end", 2), NONE, [(3, refused("alone"))]),
                       (1, ("write", 2, "x"), refused("alone"))])

    def test_two_rows_deep_a_read_is_told_the_end(self):
        m = self.machine((1, ("pipe",)), (1, ("pair",)), (1, ("pair",)), (1, ("pass", 2, 1)), (1, ("pass", 4, 3)),
                         (1, ("fork", 2)), (2, ("close", 1)), (2, ("close", 3)), (2, ("close", 5)), (2, ("read", 0, 4)))
        self.calls(m, [(1, ("close", 1), NONE), (1, ("close", 3), NONE), (1, ("close", 5), NONE, [(2, told(""))])])

    def test_a_side_in_its_own_row(self):
        m = self.machine((1, ("pair",)), (1, ("pass", 0, 1)))
        self.calls(m, [(1, ("write", 0, "a"), told(1)), (1, ("close", 1), NONE),
                       (1, ("write", 0, "a"), refused("alone")),
                       (1, ("read", 0, 1), told("")), (1, ("take", 0), NONE)])

    def test_sides_in_each_others_rows(self):
        # 0, 1 and 2, 3: side 1 lies in the row of 3, side 3 in the row of 1.
        m = self.machine((1, ("pair",)), (1, ("pair",)), (1, ("pass", 2, 1)), (1, ("pass", 0, 3)), (1, ("close", 1)))
        self.calls(m, [
            (1, ("write", 0, "a"), told(1)), (1, ("write", 2, "b"), told(1)), (1, ("close", 3), NONE),
            (1, ("write", 0, "a"), refused("alone")), (1, ("pass", 2, 0), refused("alone")),
            (1, ("read", 0, 1), told("")), (1, ("take", 2), NONE)])

    def circle(self):
        """2, 3, 4 and 5 wait on the other sides of two that lie in each other's rows, and on a pipe within."""
        m = self.machine((1, ("pair",)), (1, ("pair",)), (1, ("pipe",)), (1, ("pass", 2, 1)), (1, ("pass", 0, 3)),
                         (1, ("pass", 0, 5)), (1, ("write", 0, "a")), (1, ("write", 0, "b")))
        for number in (2, 3, 4, 5):
            self.setup_calls(m, [(1, ("fork", number)), (number, ("close", 1)), (number, ("close", 3)),
                                 (number, ("close", 5))])
        return self.setup_calls(m, [(2, ("read", 0, 1)), (3, ("take", 2)), (4, ("write", 0, "c")),
                                    (5, ("read", 4, 1)), (1, ("close", 5)), (1, ("close", 1))])

    def test_a_circle_that_is_let_go(self):
        m = self.circle()
        self.calls(m, [(1, ("close", 3), NONE, [(2, told("")), (3, NONE), (4, refused("alone")), (5, told(""))])])

    def test_a_circle_that_is_let_go_by_an_end(self):
        m = self.circle()
        self.setup_calls(m, [(1, ("fork", 9)), (1, ("close", 3))])
        self.calls(m, [(9, ("end", 0), NONE, [(2, told("")), (3, NONE), (4, refused("alone")), (5, told(""))])])

    def test_a_circle_that_is_let_go_by_a_copy(self):
        m = self.circle()
        self.calls(m, [(1, ("copy", 0, 3), told(3), [(2, told("")), (3, NONE), (4, refused("alone")), (5, told(""))])])

    def test_a_circle_with_one_handle_is_held(self):
        m = self.circle()
        self.setup_calls(m, [(1, ("fork", 9)), (1, ("close", 3))])
        self.calls(m, [
            (9, ("take", 3), told(1)), (9, ("take", 1), told(5), [(4, told(1))]), (9, ("same", 5, 9, 3), told(True)),
            (9, ("take", 1), told(6)), (9, ("write", 6, "x"), told(1), [(5, told("x"))]),
            (9, ("pass", 3, 0), NONE, [(3, told(1))])])

    def test_letters_are_gone_with_their_side(self):
        m = self.machine((1, ("pair",)), (1, ("pair",)), (1, ("pass", 0, 3)), (1, ("close", 3)), (1, ("close", 1)))
        self.calls(m, [(1, ("write", 2, "a"), refused("alone")), (1, ("read", 2, 1), told(""))])

    def test_taking_out_keeps_a_thing(self):
        m = self.machine((1, ("pipe",)), (1, ("pair",)), (1, ("pass", 2, 0)), (1, ("close", 0)), (1, ("fork", 2)),
                         (2, ("take", 3)), (2, ("close", 3)), (1, ("close", 3)))
        self.calls(m, [(1, ("write", 1, "a"), told(1)), (2, ("read", 0, 1), told("a")), (2, ("close", 0), NONE),
                       (1, ("write", 1, "a"), refused("alone"))])

    def test_only_what_is_held_exists(self):
        m = self.machine((1, ("open", "log")), (1, ("pipe",)), (1, ("pair",)), (1, ("area",)), (1, ("pass", 3, 5)),
                         (1, ("write", 2, "a")), (1, ("remove", "log")))
        world = m.world
        self.assertEqual([len(at) for at in (world.things, world.pipes, world.sides, world.areas, world.files)],
                         [6, 1, 2, 1, 1])
        self.setup_calls(m, [(1, ("close", handle)) for handle in (0, 1, 4, 5)])
        self.assertEqual(sorted(at[0] for at in world.things.values()), ["side", "writes"])
        self.assertEqual([pipe.text for pipe in world.pipes.values()], [""])
        self.assertEqual([side.letters for side in world.sides.values()], [[], []])
        self.assertEqual((world.areas, world.files), ({}, {}))
        self.setup_calls(m, [(1, ("close", handle)) for handle in (2, 3)])
        self.assertEqual((world.things, world.pipes, world.sides), ({}, {}, {}))


if __name__ == "__main__":
    unittest.main()
