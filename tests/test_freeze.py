"""[9] freeze and state."""

import unittest

from tests.helper import NONE, WAITS, ZEROS, Case, everything, image, row, told
from treethaw.errors import NoProcess, Outside
from treethaw.images import freeze, is_image, state
from treethaw.machine import Machine


class Freezing(Case):
    def built(self, rows, files=()):
        return self.setup_calls(Machine(files), rows)

    def frozen(self, machine, root, wanted):
        """The image is this one to the letter, an image, and the machine is as before."""
        before = repr((everything(machine), state(machine)))
        self.exact(freeze(machine, root), wanted)
        self.assertTrue(is_image(wanted))
        self.assertEqual(repr((everything(machine), state(machine))), before)

    def outside(self, machine, root, what):
        before = repr((everything(machine), state(machine)))
        with self.assertRaises(Outside) as caught:
            freeze(machine, root)
        self.exact(caught.exception.what, what)
        self.assertEqual(repr((everything(machine), state(machine))), before)

    def inside(self, machine, root):
        self.assertTrue(is_image(freeze(machine, root)))


class NoProcesses(Freezing):
    def test_no_process(self):
        m = self.built([(1, ("fork", 5)), (5, ("fork", 6)), (6, ("end", 1))])
        for root in (1, 0, -5, 2, 6, 200, 10 ** 12):
            with self.subTest(root), self.assertRaises(NoProcess) as caught:
                freeze(m, root)
            self.exact(caught.exception.number, root)
        self.inside(m, 5)

    def test_before_outside(self):
        m = self.built([(1, ("fork", 5)), (5, ("lead",)), (5, ("fork", 6)), (5, ("fork", 7)), (6, ("end", 1))])
        self.assertRaises(NoProcess, freeze, m, 6)
        self.outside(m, 7, ("session", 5))

    def test_gone(self):
        m = self.built([(1, ("fork", 5)), (5, ("end", 1)), (1, ("wait", 5))])
        self.assertRaises(NoProcess, freeze, m, 5)


class Processes(Freezing):
    def test_one(self):
        self.frozen(self.built([(1, ("fork", 5))]), 5, image(row(5)))

    def test_any_parent(self):
        m = self.built([(1, ("fork", 5)), (5, ("fork", 4)), (4, ("fork", 3)), (4, ("fork", 9)), (1, ("fork", 2))])
        self.frozen(m, 4, image(row(3, 4), row(4), row(9, 4)))
        self.frozen(m, 5, image(row(3, 4), row(4, 5), row(5), row(9, 4)))
        self.frozen(m, 2, image(row(2)))

    def test_all_parts(self):
        m = self.built([
            (1, ("set", 3, 10 ** 12)), (1, ("fork", 5)), (5, ("lead",)), (5, ("adopt",)), (5, ("fork", 6)),
            (5, ("fork", 7)), (5, ("fork", 8)), (6, ("join", 6, 6)), (7, ("set", 0, -4)), (8, ("end", -9)),
            (5, ("wait", 7)), (1, ("send", "stop", 7))])
        self.frozen(m, 5, image(
            row(5, None, 5, 5, True, "waits", None, ("wait", 7), (0, 0, 0, 10 ** 12)),
            row(6, 5, 5, 6, False, "runs", None, None, (0, 0, 0, 10 ** 12)),
            row(7, 5, 5, 5, False, "stopped", None, None, (-4, 0, 0, 10 ** 12)),
            row(8, 5, 5, 5, False, "ended", -9, None, (), ())))

    def test_ended_adopter(self):
        m = self.built([(1, ("fork", 5)), (5, ("fork", 6)), (6, ("adopt",)), (6, ("area",)), (6, ("end", 0))])
        self.frozen(m, 5, image(row(5), row(6, 5, code=0)))

    def test_stopped_with_a_call(self):
        m = self.built([(1, ("fork", 5)), (5, ("fork", 6)), (5, ("wait", 0)), (1, ("send", "stop", 5)),
                        (6, ("end", 3))])
        self.frozen(m, 5, image(row(5, word="stopped", call=("wait", 0)), row(6, 5, code=3)))


class Numbering(Freezing):
    def test_things_by_handles(self):
        m = self.built([
            (1, ("fork", 9)), (9, ("area",)), (9, ("poke", 0, 1, 5)), (9, ("area",)), (9, ("area",)), (9, ("fork", 3)),
            (3, ("close", 0)), (3, ("close", 1)), (9, ("copy", 1, 10 ** 12)), (9, ("copy", 2, 7))])
        self.frozen(m, 9, image(
            row(3, 9, handles=((2, 0),)), row(9, handles=((0, 1), (1, 2), (2, 0), (7, 0), (10 ** 12, 2))),
            things=(("area", 0), ("area", 1), ("area", 2)), areas=(ZEROS, (0, 5, 0, 0), ZEROS)))

    def test_files(self):
        m = self.built([
            (1, ("fork", 5)), (5, ("open", "b")), (5, ("open", "a")), (5, ("open", "b")), (5, ("open", "c")),
            (5, ("remove", "c")), (5, ("seek", 1, 2)), (5, ("write", 3, "xyz")), (5, ("close", 0))],
            [("a", "12"), ("b", ""), ("c", "q"), ("d", "not met")])
        self.frozen(m, 5, image(
            row(5, handles=((1, 0), (2, 1), (3, 2))), things=(("file", 0, 2), ("file", 1, 0), ("file", 2, 3)),
            files=(("a", "12"), ("b", ""), (None, "xyz"))))

    def test_openings_alike(self):
        m = self.built([(1, ("fork", 5)), (5, ("open", "a")), (5, ("open", "a")), (5, ("copy", 0, 3))], [("a", "1")])
        self.frozen(m, 5, image(
            row(5, handles=((0, 0), (1, 1), (3, 0))), things=(("file", 0, 0), ("file", 0, 0)), files=(("a", "1"),)))

    def test_pipes(self):
        m = self.built([
            (1, ("fork", 5)), (5, ("pipe",)), (5, ("pipe",)), (5, ("write", 1, "one")), (5, ("write", 3, "two")),
            (5, ("copy", 3, 0))])
        self.frozen(m, 5, image(
            row(5, handles=((0, 0), (1, 1), (2, 2), (3, 0))), things=(("writes", 0), ("writes", 1), ("reads", 0)),
            pipes=(("two", (), ()), ("", (), ()))))

    def test_reading_end_alone(self):
        m = self.built([(1, ("fork", 5)), (5, ("pipe",)), (5, ("write", 1, "one")), (5, ("close", 1))])
        self.frozen(m, 5, image(row(5, handles=((0, 0),)), things=(("reads", 0),), pipes=(("one", (), ()),)))

    def test_side_met_first(self):
        m = self.built([
            (1, ("fork", 5)), (5, ("pair",)), (5, ("copy", 0, 9)), (5, ("close", 0)), (5, ("write", 9, "to one")),
            (5, ("write", 1, "to zero")), (5, ("write", 1, "more"))])
        self.frozen(m, 5, image(
            row(5, handles=((1, 0), (9, 1))), things=(("side", 0, 0), ("side", 0, 1)),
            pairs=(((("to one",), (), ()), (("to zero", "more"), (), ())),)))

    def test_side_alone(self):
        m = self.built([(1, ("fork", 5)), (5, ("pair",)), (5, ("write", 0, "x")), (5, ("write", 1, "y")),
                        (5, ("close", 0))])
        self.frozen(m, 5, image(
            row(5, handles=((1, 0),)), things=(("side", 0, 0),), pairs=(((("x",), (), ()), ((), (), ())),)))

    def test_through_letters(self):
        m = self.built([
            (1, ("fork", 5)), (5, ("pair",)), (5, ("pair",)), (5, ("area",)), (5, ("pipe",)), (5, ("poke", 4, 0, 8)),
            (5, ("write", 6, "in")), (5, ("pass", 2, 4)), (5, ("pass", 2, 5)), (5, ("write", 0, "hi")),
            (5, ("pass", 0, 3)), (5, ("pass", 0, 1)), (5, ("pass", 0, 3)), (5, ("close", 0)), (5, ("close", 2)),
            (5, ("close", 3)), (5, ("close", 4)), (5, ("close", 5)), (5, ("close", 6))])
        # The letters of the side: a text, a side of the other pair with two letters in it, itself, the other one again.
        self.frozen(m, 5, image(
            row(5, handles=((1, 0),)),
            things=(("side", 0, 0), ("side", 1, 0), ("area", 0), ("reads", 0)),
            pipes=(("in", (), ()),),
            pairs=(((("hi", 1, 0, 1), (), ()), ((), (), ())), (((2, 3), (), ()), ((), (), ()))),
            areas=((8, 0, 0, 0),)))

    def test_letters_behind_all_handles(self):
        m = self.built([
            (1, ("fork", 5)), (5, ("pair",)), (5, ("area",)), (5, ("poke", 2, 0, 1)), (5, ("area",)),
            (5, ("pass", 1, 2)), (5, ("close", 2)), (5, ("fork", 6))])
        self.frozen(m, 5, image(
            row(5, handles=((0, 0), (1, 1), (3, 2))), row(6, 5, handles=((0, 0), (1, 1), (3, 2))),
            things=(("side", 0, 0), ("side", 0, 1), ("area", 0), ("area", 1)),
            pairs=((((3,), (), ()), ((), (), ())),), areas=(ZEROS, (1, 0, 0, 0))))


class Waiting(Freezing):
    def test_rows_of_a_pipe(self):
        m = self.built([
            (1, ("fork", 5)), (5, ("pipe",)), (5, ("fork", 8)), (5, ("fork", 7)), (5, ("fork", 6)),
            (8, ("read", 0, 3)), (6, ("read", 0, 9)), (7, ("read", 0, 1)), (1, ("send", "stop", 6))])
        ends = ((0, 0), (1, 1))
        things = (("reads", 0), ("writes", 0))
        self.frozen(m, 5, image(
            row(5, handles=ends), row(6, 5, word="stopped", call=("read", 0, 9), handles=ends),
            row(7, 5, word="waits", call=("read", 0, 1), handles=ends),
            row(8, 5, word="waits", call=("read", 0, 3), handles=ends), things=things, pipes=(("", (8, 6, 7), ()),)))
        self.calls(m, [(5, ("write", 1, "abcd"), told(4), [(7, told("d")), (8, told("abc"))])])
        self.setup_calls(m, [(5, ("write", 1, "12345678")), (8, ("write", 1, "z")), (7, ("write", 1, "y"))])
        self.frozen(m, 5, image(
            row(5, handles=ends), row(6, 5, word="stopped", call=("read", 0, 9), handles=ends),
            row(7, 5, word="waits", call=("write", 1, "y"), handles=ends),
            row(8, 5, word="waits", call=("write", 1, "z"), handles=ends), things=things,
            pipes=(("12345678", (6,), (8, 7)),)))

    def test_rows_of_sides(self):
        m = self.built([
            (1, ("fork", 5)), (5, ("pair",)), (5, ("fork", 6)), (5, ("fork", 7)), (5, ("fork", 8)), (5, ("fork", 9)),
            (9, ("take", 1)), (6, ("read", 1, 2)), (5, ("write", 1, "a")), (5, ("write", 1, "b")),
            (5, ("write", 1, "c")), (5, ("pass", 1, 0)), (8, ("pass", 1, 1)), (7, ("write", 1, "d"))])
        ends = ((0, 0), (1, 1))
        self.frozen(m, 5, image(
            row(5, handles=ends), row(6, 5, word="waits", call=("read", 1, 2), handles=ends),
            row(7, 5, word="waits", call=("write", 1, "d"), handles=ends),
            row(8, 5, word="waits", call=("pass", 1, 1), handles=ends),
            row(9, 5, word="waits", call=("take", 1), handles=ends), things=(("side", 0, 0), ("side", 0, 1)),
            pairs=(((("a", "b", "c", 0), (), ()), ((), (9, 6), (8, 7))),)))

    def test_call_as_a_list(self):
        m = self.built([(1, ("fork", 5)), (5, ["pipe"]), (5, ["read", 0, 1])])
        self.frozen(m, 5, image(
            row(5, word="waits", call=("read", 0, 1), handles=((0, 0), (1, 1))), things=(("reads", 0), ("writes", 0)),
            pipes=(("", (5,), ()),)))

    def test_nobody_is_answered(self):
        m = self.built([(1, ("fork", 5)), (5, ("pipe",)), (5, ("fork", 6)), (6, ("read", 0, 4))])
        freeze(m, 5)
        state(m)
        self.calls(m, [(5, ("write", 1, "x"), told(1), [(6, told("x"))]), (6, ("read", 0, 4), WAITS)])


class OutsideSessions(Freezing):
    def test_session(self):
        m = self.built([(1, ("fork", 5)), (5, ("lead",)), (5, ("fork", 6)), (6, ("fork", 7))])
        self.outside(m, 6, ("session", 5))
        self.outside(m, 7, ("session", 5))
        self.inside(m, 5)

    def test_least_session(self):
        # 2 is in the session of 9 above it; 30 was adopted above 2, out of the session of 4 below it.
        m = self.built([
            (1, ("fork", 9)), (9, ("lead",)), (9, ("fork", 2)), (2, ("fork", 4)), (4, ("lead",)), (4, ("fork", 41)),
            (41, ("fork", 30)), (41, ("end", 0))])
        self.outside(m, 2, ("session", 4))
        self.outside(m, 30, ("session", 4))
        self.setup_calls(m, [(30, ("end", 0)), (1, ("wait", 30))])
        self.outside(m, 2, ("session", 9))
        self.inside(m, 9)

    def test_session_1(self):
        m = self.built([(1, ("fork", 5)), (1, ("fork", 6)), (5, ("fork", 7))])
        self.inside(m, 5)
        self.inside(m, 6)
        self.inside(m, 7)

    def test_ended_ones_share(self):
        m = self.built([(1, ("fork", 5)), (5, ("lead",)), (5, ("fork", 6)), (5, ("end", 0))])
        self.outside(m, 6, ("session", 5))
        self.setup_calls(m, [(1, ("wait", 5))])
        self.frozen(m, 6, image(row(6, None, 5)))

    def test_ended_one_in_the_tree_shares(self):
        m = self.built([(1, ("fork", 5)), (5, ("lead",)), (5, ("fork", 7)), (7, ("fork", 6)), (5, ("end", 0)),
                        (1, ("wait", 5))])
        self.inside(m, 7)
        self.setup_calls(m, [(6, ("end", 0)), (1, ("fork", 8))])
        self.inside(m, 7)
        self.setup_calls(m, [(7, ("fork", 9)), (7, ("end", 0))])
        self.outside(m, 9, ("session", 5))
        self.setup_calls(m, [(1, ("wait", 7)), (1, ("wait", 6))])
        self.inside(m, 9)


class OutsideGroups(Freezing):
    def test_groups_need_a_session(self):
        m = self.built([(1, ("fork", 5)), (1, ("fork", 6)), (5, ("join", 5, 5)), (6, ("join", 6, 5)),
                        (6, ("fork", 7)), (7, ("join", 7, 7))])
        self.outside(m, 5, ("group", 5))
        self.outside(m, 6, ("group", 5))
        self.inside(m, 7)
        self.setup_calls(m, [(6, ("join", 6, 1))])
        self.inside(m, 5)

    def test_least_group(self):
        m = self.built([(1, ("fork", at)) for at in (5, 3, 6, 7)] + [
            (5, ("fork", 8)), (5, ("join", 5, 5)), (3, ("join", 3, 3)), (6, ("join", 6, 5)), (7, ("join", 7, 3)),
            (8, ("join", 8, 3))])
        self.outside(m, 5, ("group", 3))
        self.outside(m, 8, ("group", 3))
        self.outside(m, 6, ("group", 5))

    def test_ended_ones_share(self):
        m = self.built([(1, ("fork", 5)), (1, ("fork", 6)), (5, ("join", 5, 5)), (6, ("join", 6, 5)), (5, ("end", 0))])
        self.outside(m, 6, ("group", 5))
        self.setup_calls(m, [(1, ("wait", 5))])
        self.inside(m, 6)

    def test_session_before_group(self):
        m = self.built([(1, ("fork", 5)), (5, ("lead",)), (5, ("fork", 3)), (5, ("fork", 4)), (3, ("join", 3, 3)),
                        (4, ("join", 4, 3))])
        self.outside(m, 3, ("session", 5))

    def test_group_before_thing(self):
        m = self.built([(1, ("area",)), (1, ("fork", 5)), (1, ("fork", 6)), (5, ("join", 5, 5)), (6, ("join", 6, 5))])
        self.outside(m, 5, ("group", 5))
        self.setup_calls(m, [(6, ("join", 6, 6))])
        self.outside(m, 5, ("thing", 5, 0))


class OutsideThings(Freezing):
    def test_each_kind(self):
        for call, handle in [(("area",), 0), (("pipe",), 0), (("pair",), 0), (("open", "a"), 0)]:
            with self.subTest(call):
                m = self.built([(1, call), (1, ("fork", 5))], [("a", "")])
                self.outside(m, 5, ("thing", 5, handle))
                self.setup_calls(m, [(1, ("close", at)) for at in m.twin().do(1, ("handles",))[0][1]])
                self.inside(m, 5)

    def test_other_end(self):
        for call in (("pipe",), ("pair",)):
            for mine in (0, 1):
                with self.subTest(call=call, mine=mine):
                    m = self.built([(1, call), (1, ("fork", 5)), (1, ("close", mine)), (5, ("close", 1 - mine))])
                    self.outside(m, 5, ("thing", 5, mine))
                    self.setup_calls(m, [(1, ("close", 1 - mine))])
                    self.inside(m, 5)

    def test_other_opening(self):
        m = self.built([(1, ("open", "a")), (1, ("fork", 5)), (5, ("close", 0)), (5, ("area",)), (5, ("open", "a"))],
                       [("a", "")])
        self.inside(m, 5)
        self.setup_calls(m, [(1, ("remove", "a"))])
        self.outside(m, 5, ("thing", 5, 1))
        self.setup_calls(m, [(1, ("make", "a", ""))])
        self.outside(m, 5, ("thing", 5, 1))
        self.setup_calls(m, [(1, ("close", 0))])
        self.inside(m, 5)

    def test_least_process_and_handle(self):
        m = self.built([
            (1, ("area",)), (1, ("area",)), (1, ("fork", 9)), (9, ("area",)), (9, ("fork", 4)), (9, ("fork", 6)),
            (4, ("close", 0)), (4, ("close", 1)), (6, ("copy", 0, 10 ** 12)), (6, ("close", 0)),
            (6, ("copy", 1, 3)), (6, ("close", 1))])
        self.outside(m, 9, ("thing", 6, 3))
        self.setup_calls(m, [(6, ("close", 3))])
        self.outside(m, 9, ("thing", 6, 10 ** 12))
        self.setup_calls(m, [(6, ("end", 0))])
        self.outside(m, 9, ("thing", 9, 0))
        self.setup_calls(m, [(1, ("close", 0))])
        self.outside(m, 9, ("thing", 9, 1))
        self.outside(m, 4, ("thing", 4, 2))

    def test_through_letters_of_the_tree(self):
        m = self.built([
            (1, ("area",)), (1, ("fork", 5)), (5, ("pair",)), (5, ("pair",)), (5, ("pass", 3, 0)), (5, ("pass", 1, 4)),
            (5, ("close", 0)), (5, ("close", 3)), (5, ("close", 4))])
        # 1 and 2 are a pair; a side of the other pair lies at 2's side, the area in that.
        self.outside(m, 5, ("thing", 5, 2))
        self.setup_calls(m, [(1, ("close", 0))])
        self.inside(m, 5)

    def test_through_letters_of_others(self):
        m = self.built([
            (1, ("area",)), (1, ("fork", 5)), (1, ("pair",)), (1, ("pair",)), (1, ("pass", 3, 0)), (1, ("pass", 1, 4)),
            (1, ("close", 0)), (1, ("close", 3)), (1, ("close", 4)), (1, ("close", 1))])
        self.outside(m, 5, ("thing", 5, 0))
        self.setup_calls(m, [(1, ("close", 2))])
        self.inside(m, 5)

    def test_other_end_in_a_letter(self):
        for mine in (1, 2):
            with self.subTest(mine):
                m = self.built([
                    (1, ("area",)), (1, ("pipe",)), (1, ("fork", 5)), (5, ("close", 0)), (5, ("close", 3 - mine)),
                    (1, ("pair",)), (1, ("pass", 3, 1)), (1, ("pass", 3, 2)), (1, ("close", 0)), (1, ("close", 1)),
                    (1, ("close", 2)), (1, ("close", 3))])
                self.outside(m, 5, ("thing", 5, mine))
                self.setup_calls(m, [(1, ("close", 4))])
                self.inside(m, 5)

    def test_other_side_in_a_letter(self):
        for mine in (0, 1):
            with self.subTest(mine):
                m = self.built([
                    (1, ("pair",)), (1, ("fork", 5)), (5, ("close", 1 - mine)), (1, ("pair",)),
                    (1, ("pass", 2, 1 - mine)), (1, ("close", 0)), (1, ("close", 1)), (1, ("close", 2))])
                self.outside(m, 5, ("thing", 5, mine))
                self.setup_calls(m, [(1, ("close", 3))])
                self.inside(m, 5)

    def test_letters_of_the_other_side_are_not_reached(self):
        # What was sent to a side is reached from this side only; here both sides are in the tree all the same.
        m = self.built([(1, ("fork", 5)), (5, ("area",)), (5, ("pair",)), (5, ("pass", 1, 0))])
        self.frozen(m, 5, image(
            row(5, handles=((0, 0), (1, 1), (2, 2))), things=(("area", 0), ("side", 0, 0), ("side", 0, 1)),
            pairs=((((), (), ()), ((0,), (), ())),), areas=(ZEROS,)))

    def test_what_nobody_else_has(self):
        m = self.built([(1, ("area",)), (1, ("pipe",)), (1, ("fork", 5)), (1, ("fork", 6)), (1, ("close", 0)),
                        (1, ("close", 1)), (1, ("close", 2))])
        self.outside(m, 5, ("thing", 5, 0))
        self.setup_calls(m, [(6, ("end", 0))])
        self.inside(m, 5)

    def test_sides_in_each_others_rows_are_gone(self):
        m = self.built([(1, ("area",)), (1, ("fork", 5)), (1, ("pair",)), (1, ("pass", 1, 0)), (1, ("pass", 2, 1)),
                        (1, ("pass", 1, 2)), (1, ("close", 0)), (1, ("close", 1))])
        self.outside(m, 5, ("thing", 5, 0))
        self.setup_calls(m, [(1, ("close", 2))])
        self.inside(m, 5)


class States(Freezing):
    def test_bare(self):
        self.exact(state(Machine()), (image(row(1, adopts=True)), ()))

    def test_files_ascending(self):
        m = self.built([(1, ("make", "aa", "x")), (1, ("remove", "c"))], [("c", "1"), ("b", "2"), ("a", "")])
        self.exact(state(m), (image(row(1, adopts=True)), (("a", ""), ("aa", "x"), ("b", "2"))))

    def test_whole_machine(self):
        m = self.built([(1, ("open", "a")), (1, ("fork", 5)), (1, ("read", 0, 1)), (1, ("remove", "a")), (5, ("lead",)),
                        (5, ("fork", 3)), (3, ("end", 2)), (1, ("set", 2, 9))], [("a", "12"), ("b", "")])
        wanted = image(
            row(1, adopts=True, cells=(0, 0, 9, 0), handles=((0, 0),)), row(3, 5, 5, code=2),
            row(5, 1, 5, handles=((0, 0),)), things=(("file", 0, 1),), files=((None, "12"),))
        self.exact(state(m), (wanted, (("b", ""),)))
        self.assertFalse(is_image(wanted))

    def test_changes_nothing(self):
        m = self.built([(1, ("pipe",)), (1, ("fork", 5)), (5, ("read", 0, 1))])
        self.exact(state(m), state(m))
        self.exact(state(m.twin()), state(m))
        self.calls(m, [(1, ("write", 1, "a"), told(1), [(5, told("a"))]), (1, ("close", 0), NONE)])


if __name__ == "__main__":
    unittest.main()
