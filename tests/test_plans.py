"""[11] plan, is_order, play and helpers_of; (b), (c) and (d) of [1]."""

import random
import unittest

from tests.drawing import Drawn, draw_ends, draw_family, family_image, free_family, orders
from tests.helper import ZEROS, Case, image, listed, row
from tests.thawing import ThawCase, crowded, fault, numbers_of
from treethaw.bars import bar, helpers
from treethaw.errors import BadStep, Barred, NoOrder
from treethaw.images import freeze, is_image, state
from treethaw.machine import Machine
from treethaw.plans import helpers_of, is_order, plan, play

TOP = row(2, session=2, adopts=True)
ENDS = ((0, 0), (1, 1))
PIPE = (("reads", 0), ("writes", 0))
PAIR = (("side", 0, 0), ("side", 0, 1))
EMPTY = ((), (), ())


class Both(ThawCase):
    def both(self, told, files=()):
        """Thaws an image on a bare machine, and on one with much else."""
        self.assertTrue(is_image(told), told)
        r = random.Random(5)
        found = self.thaws(told, Machine(files), r)
        self.thaws(told, crowded(r, numbers_of(told), files), r)
        many = helpers_of(told, found)
        self.assertEqual(many, sum(map(len, helpers(told))))
        return many


class Families(Both):
    def test_one(self):
        self.assertEqual(self.both(image(row(5))), 0)
        self.assertEqual(self.both(image(row(199, session=199, adopts=True, cells=(1, -2, 10 ** 12, 0)))), 0)

    def test_depth_and_width(self):
        self.both(image(row(2), *[row(n, n - 1) for n in range(3, 14)]))
        self.both(image(*[row(n, 13) for n in range(2, 13)], row(13)))

    def test_sessions_and_groups(self):
        self.both(image(row(2, 9, 9, 3), row(3, 9, 9, 2), row(4, 3, 4), row(5, 4, 4, 6), row(6, 4, 4, 5),
                        row(9, session=9)))

    def test_lost_sessions(self):
        self.assertEqual(self.both(image(row(5, session=9), row(6, 5, 9))), 1)
        self.assertEqual(self.both(image(TOP, row(3, 2, 9), row(4, 2, 8), row(5, 2, 9, 5), row(6, 3, 6))), 2)

    def test_helper_groups(self):
        self.assertEqual(self.both(image(row(5, group=9), row(6, 5, 1, 9), row(7, 5, 1, 8))), 2)
        self.assertEqual(self.both(image(row(5, session=9, group=8), row(6, 5, 9, 7), row(7, 5, 9, 9))), 2)
        self.assertEqual(self.both(image(TOP, row(3, 2, 2, 50), row(4, 3, 2, 51, code=1))), 2)

    def test_other_tops(self):
        for leader in (row(3, 2, 3), row(3, 2, 3, adopts=True)):
            self.assertEqual(self.both(image(TOP, leader, row(4, 2, 3), row(5, 2, 3, 5))), 1)
            self.assertEqual(self.both(image(TOP, leader, row(4, 2, 3), row(5, 3, 3), row(6, 4, 6))), 1)

    def test_bearers(self):
        self.assertEqual(self.both(image(TOP, row(3, 2, 3, code=4), row(4, 2, 3), row(5, 2, 3, code=5))), 0)
        self.assertEqual(self.both(image(TOP, row(3, 2, 3), row(4, 2, 3), row(5, 3, 3), row(6, 5, 3, code=0))), 0)

    def test_other_tops_keep_a_group(self):
        for leader in (row(3, 2, 3), row(3, 2, 3, adopts=True)):
            self.assertEqual(self.both(image(TOP, leader, row(4, 2, 3), row(5, 3, 3, 9), row(6, 5, 3, 9))), 1)
            self.assertEqual(self.both(image(TOP, leader, row(4, 2, 3, 3), row(5, 3, 3, 9), row(6, 4, 3, 8))), 2)
            self.assertEqual(self.both(image(TOP, leader, row(4, 2, 3, 4), row(5, 2, 3, 8), row(6, 3, 3, 7),
                                             row(7, 4, 3, 5))), 1)

    def test_chain_of_needs(self):
        self.both(image(TOP, row(3, 2, 100), row(4, 2, 101), row(5, 2, 5), row(100, 4, 100), row(101, 5, 101)))
        self.both(image(TOP, row(3, 2, 100), row(4, 2, 101), row(5, 2, 5), row(100, 4, 100, code=1),
                        row(101, 5, 101, code=2)))

    def test_waits_for_children(self):
        for who in (0, 3, 4):
            for word in ("waits", "stopped"):
                self.both(image(row(2, word=word, call=("wait", who)), row(3, 2), row(4, 2, word="stopped")))
            self.both(image(row(2, word="stopped", call=("wait", who)), row(3, 2, code=8), row(4, 2, code=-1)))
        self.both(image(row(2, word="waits", call=("wait", 4)), row(3, 2, code=8), row(4, 2)))

    def test_waits_for_adopted_children(self):
        for who in (0, 3, 4):
            for leader in (row(3, 2, 3, code=1), row(3, 2, 3)):
                for other in (row(4, 2, 3), row(4, 2, 3, code=2)):
                    told = image(row(2, session=2, adopts=True, word="stopped", call=("wait", who)), leader, other)
                    self.both(told)
                    if is_image(told := (((*told[0][0][:5], "waits", *told[0][0][6:]), *told[0][1:]), *told[1:])):
                        self.both(told)

    def test_bearer_below_one_that_waits(self):
        for who in (0, 5):
            self.both(image(row(2, session=2, adopts=True, word="waits", call=("wait", 4)),
                            row(3, 2, 3, word="stopped", call=("wait", who)), row(4, 2, 3), row(5, 3, 3, code=0)))

    def test_drawn_families(self):
        for seed in range(200):
            r = random.Random(seed)
            told = family_image(free_family(r, r.choice([2, 4, 6, 9, 12])))
            self.thaws(told, Machine() if seed % 2 else crowded(r, numbers_of(told)), r, 1)

    def test_barred_ones_cannot_be_planned(self):
        seen = 0
        for seed in range(200):
            r = random.Random(seed)
            rows = draw_family(r, 5)
            draw_ends(r, rows)
            told = family_image(rows)
            reason = bar(told)
            if reason is not None:
                seen += 1
                with self.assertRaises(Barred) as caught:
                    plan(told, Machine())
                self.exact(caught.exception.reason, reason)
        self.assertGreater(seen, 15)


class Things(Both):
    def test_areas(self):
        self.both(image(row(5, handles=((0, 0), (4, 1), (10 ** 12, 0))), row(6, 5, handles=((4, 0), (5, 2))),
                        things=(("area", 0), ("area", 1), ("area", 2)), areas=(ZEROS, (1, 2, -3, 10 ** 12), ZEROS)))

    def test_files(self):
        self.both(image(row(5, handles=((0, 0), (1, 1), (2, 2), (3, 3), (7, 4))),
                        things=(("file", 0, 0), ("file", 0, 2), ("file", 1, 3), ("file", 2, 0), ("file", 1, 3)),
                        files=(("log", "abc"), (None, "xyz"), ("b", ""))), [("b", ""), ("log", "abc"), ("c", "")])

    def test_files_without_a_path(self):
        self.both(image(row(5, handles=((0, 0), (1, 1), (2, 2))),
                        things=(("file", 0, 0), ("file", 1, 1), ("file", 0, 4)),
                        files=((None, "same"), (None, "same"))))

    def test_pipes(self):
        for ends, text in [(PIPE, ""), (PIPE, "abc"), (PIPE, "12345678"), (PIPE[:1], "abc"), (PIPE[:1], ""),
                           (PIPE[1:], "")]:
            handles = tuple((3 + at, at) for at in range(len(ends)))
            self.both(image(row(5, handles=handles), things=ends, pipes=((text, (), ()),)))

    def test_handles_that_cross(self):
        self.both(image(row(5, handles=((0, 0), (1, 1), (2, 2), (3, 3))),
                        row(6, 5, handles=((0, 3), (1, 2), (2, 1), (3, 0))),
                        things=(*PIPE, *PAIR), pipes=(("", (), ()),), pairs=((EMPTY, EMPTY),)))

    def test_letters(self):
        self.both(image(
            row(5, handles=((1, 0),)), things=(("side", 0, 0), ("side", 1, 0), ("area", 0), ("reads", 0)),
            pipes=(("in", (), ()),), areas=((8, 0, 0, 0),),
            pairs=(((("hi", 1, 0, 1), (), ()), EMPTY), (((2, 3), (), ()), EMPTY))))
        self.both(image(
            row(5, handles=((7, 0), (8, 1))), things=(*PAIR, ("file", 0, 1)), files=((None, "abc"),),
            pairs=((((1, 0, 2, "12345678"), (), ()), (("a", 0), (), ())),)))

    def test_first_process_keeps_its_own(self):
        m = Machine([("log", "abc")])
        for call in [("open", "log"), ("pair",), ("copy", 0, 5), ("read", 0, 2), ("set", 1, 4), ("fork", 3)]:
            self.assertEqual(m.do(1, call)[0][0], "told")
        self.assertEqual(m.do(3, ("end", 0))[0][0], "told")
        told = image(row(5, handles=((0, 0), (5, 1))), things=(("file", 0, 0), ("area", 0)), areas=(ZEROS,),
                     files=(("log", "abc"),))
        self.thaws(told, m, random.Random(1))
        twin = play(m, plan(told, m))
        self.exact(twin.do(1, ("handles",))[0][1], (0, 1, 2, 5))
        self.exact(twin.do(1, ("read", 5, 9))[0][1], "c")
        self.exact(twin.do(1, ("wait", 0))[0][1], (3, 0))
        self.exact(twin.do(5, ("read", 0, 9))[0][1], "abc")


class Waiting(Both):
    def test_pipes(self):
        read = dict(call=("read", 0, 3), handles=ENDS)
        write = dict(call=("write", 1, "wxyz"), handles=ENDS)
        for text in ("", "a", "1234", "12345", "12345678"):
            for reads in ("waits", "stopped"):
                for writes in ("waits", "stopped"):
                    for waiting in [((6, 7), (8, 9)), ((7, 6), ()), ((), (9, 8)), ((6,), (9,))]:
                        numbers = (*waiting[0], *waiting[1])
                        rows = [row(n, 5, word=[reads, writes][n > 7], **(read if n < 8 else write))
                                for n in sorted(numbers)]
                        told = image(row(5, handles=ENDS), *rows, things=PIPE, pipes=((text, *waiting),))
                        if is_image(told):
                            self.both(told)

    def test_stopped_and_not(self):
        rows = [row(6, 5, word="stopped", call=("write", 1, "a"), handles=ENDS),
                row(7, 5, word="waits", call=("write", 1, "vwxyz"), handles=ENDS),
                row(8, 5, word="stopped", call=("write", 1, "b"), handles=ENDS),
                row(9, 5, word="stopped", call=("read", 0, 9), handles=ENDS)]
        for order in ((6, 7, 8), (7, 8, 6), (8, 6, 7)):
            self.both(image(row(5, handles=ENDS), *rows, things=PIPE, pipes=(("1234", (9,), order),)))

    def test_ends_that_are_gone(self):
        self.both(image(row(5, word="stopped", call=("read", 0, 1), handles=((0, 0),)), things=PIPE[:1],
                        pipes=(("abc", (5,), ()),)))
        self.both(image(row(5, word="stopped", call=("read", 0, 1), handles=((0, 0),)), things=PIPE[:1],
                        pipes=(("", (5,), ()),)))
        self.both(image(row(5, word="stopped", call=("write", 0, "12345678"), handles=((0, 0),)), things=PIPE[1:],
                        pipes=(("", (), (5,)),)))
        for call, at in [(("take", 0), 1), (("read", 0, 1), 1), (("pass", 0, 0), 2), (("write", 0, "a"), 2)]:
            side = tuple((5,) if n == at else () for n in range(3))
            told = image(row(5, word="stopped", call=call, handles=((0, 0),)), things=PAIR[:1], pairs=((side, EMPTY),))
            self.both(told)
            self.both(image(told[0][0], things=PAIR[:1], pairs=(((("x", 0), *side[1:]), EMPTY),)))

    def test_pairs(self):
        for letters in ((), ("a",), (0, "b"), ("a", "b", "c", "d"), (0, 1, 0, 1)):
            for takes in ("waits", "stopped"):
                for puts in ("waits", "stopped"):
                    for turn in (0, 1):
                        rows = [row(6, 5, word=takes, call=("take", turn), handles=ENDS),
                                row(7, 5, word="stopped", call=("read", turn, 4), handles=ENDS),
                                row(8, 5, word=puts, call=("pass", 1 - turn, turn), handles=ENDS),
                                row(9, 5, word="stopped", call=("write", 1 - turn, "z"), handles=ENDS)]
                        sides = [(letters, (7, 6), ()), ((), (), (9, 8))]
                        told = image(row(5, handles=ENDS), *rows, things=PAIR,
                                     pairs=((sides[turn], sides[1 - turn]),))
                        if is_image(told):
                            self.both(told)

    def test_both_rows_of_both_sides(self):
        rows = [row(6, 5, word="waits", call=("take", 0), handles=ENDS),
                row(7, 5, word="stopped", call=("read", 1, 4), handles=ENDS),
                row(8, 5, word="stopped", call=("write", 1, "z"), handles=ENDS),
                row(9, 5, word="waits", call=("write", 0, "y"), handles=ENDS)]
        self.both(image(row(5, handles=ENDS), *rows, things=PAIR,
                        pairs=((((), (6,), (9,)), (("a", "b", "c", 0), (7,), (8,))),)))

    def test_alone(self):
        self.both(image(row(5, word="waits", call=("read", 0, 1), handles=ENDS), things=PIPE, pipes=(("", (5,), ()),)))
        self.both(image(row(5, word="waits", call=("write", 1, "ab"), handles=ENDS), things=PIPE,
                        pipes=(("1234567", (), (5,)),)))
        self.both(image(row(5, word="stopped")))


class Many(Both):
    def test_drawn_images(self):
        files = [("log", "abc"), ("b", "")]
        for seed in range(150):
            r = random.Random(seed)
            told = Drawn(r, r.choice([1, 2, 3, 4, 6, 9]), r.choice([0, 2, 5, 9]), files).image()
            self.thaws(told, Machine(files) if seed % 2 else crowded(r, numbers_of(told), files), r, 2)

    def test_large(self):
        files = [("log", "abc"), ("b", "x" * 40)]
        for seed in range(3):
            r = random.Random(seed)
            told = Drawn(r, 12, 40, files).image()
            m = Machine(files)
            for number in [n for n in range(2, 200) if n not in numbers_of(told)][:23]:
                m.do(1, ("fork", number))
            m.do(1, ("open", "b"))
            m.do(1, ("copy", 0, 10 ** 12))
            found = self.thaws(told, m)
            for order in orders(r, found, 1)[:4]:
                self.assertIsNone(fault(told, m, found, order))


class BarredOnes(Case):
    def barred(self, told, machine, reason):
        before = repr(state(machine))
        with self.assertRaises(Barred) as caught:
            plan(told, machine)
        self.exact(caught.exception.reason, reason)
        self.assertEqual(repr(state(machine)), before)

    def machine(self, *calls, files=()):
        m = Machine(files)
        for number, call in calls:
            self.assertEqual(m.do(number, call)[0][0], "told", (number, call))
        return m

    def test_bars(self):
        self.barred(image(row(2, session=2), row(3, 2, 9)), Machine(), ("session", 9, 3))
        self.barred(image(row(2, group=9), row(3, 2, 3), row(4, 3, 3, 9)), Machine(), ("group", 9))
        self.barred(image(TOP, row(3, 2, 5), row(5, 3, 5)), Machine(), ("ring", [3]))

    def test_numbers(self):
        m = self.machine((1, ("fork", 7)))
        self.barred(image(row(7)), m, ("number", 7))
        self.barred(image(row(5, session=7)), m, ("number", 7))
        self.barred(image(row(5, group=7)), m, ("number", 7))
        self.barred(image(row(5), row(7, 5)), m, ("number", 7))
        self.assertEqual(helpers_of(image(row(5)), plan(image(row(5)), m)), 0)

    def test_numbers_of_sessions_and_groups(self):
        m = self.machine((1, ("fork", 7)), (7, ("lead",)), (7, ("fork", 8)), (7, ("fork", 6)), (8, ("fork", 9)),
                         (8, ("join", 8, 8)), (9, ("join", 9, 8)), (8, ("end", 0)), (7, ("wait", 8)), (7, ("end", 0)),
                         (1, ("wait", 7)))
        # 7 is a session and 8 a group, of no process of these numbers any more.
        self.exact(m.numbers(), [1, 6, 9])
        for number in (6, 7, 8, 9):
            for told in (image(row(number)), image(row(5, session=number)), image(row(5, group=number))):
                self.barred(told, m, ("number", number))

    def test_ended_ones(self):
        m = self.machine((1, ("fork", 7)), (7, ("end", 0)))
        self.barred(image(row(7)), m, ("number", 7))
        m.do(1, ("wait", 7))
        self.assertIsNone(fault(image(row(7)), m, plan(image(row(7)), m)))

    def test_least_number(self):
        m = self.machine(*[(1, ("fork", n)) for n in (9, 4, 6, 30)])
        self.barred(image(row(9), row(30, 9)), m, ("number", 9))
        self.barred(image(row(9, session=9, group=9), row(30, 9, 9, 6)), m, ("number", 6))
        self.barred(image(row(9, session=4, group=30)), m, ("number", 4))

    def test_one_is_no_reason(self):
        m = self.machine((1, ("fork", 9)))
        self.assertIsNone(fault(image(row(5)), m, plan(image(row(5)), m)))

    def test_paths(self):
        told = image(row(5, handles=((0, 0), (1, 1), (2, 2))),
                     things=(("file", 0, 0), ("file", 1, 0), ("file", 2, 0)),
                     files=(("b", "x"), (None, "y"), ("a", "z")))
        self.barred(told, Machine(), ("path", "b"))
        self.barred(told, Machine([("a", "z")]), ("path", "b"))
        self.barred(told, Machine([("b", "x")]), ("path", "a"))
        self.barred(told, Machine([("b", "x"), ("a", "")]), ("path", "a"))
        self.barred(told, Machine([("b", "xx"), ("a", "z")]), ("path", "b"))
        m = Machine([("b", "x"), ("a", "z"), ("c", "")])
        self.assertIsNone(fault(told, m, plan(told, m)))
        m.do(1, ("open", "a"))
        m.do(1, ("remove", "a"))
        self.barred(told, m, ("path", "a"))

    def test_order(self):
        ring = image(TOP, row(3, 2, 5), row(5, 3, 5, handles=((0, 0),)), things=(("file", 0, 0),), files=(("a", ""),))
        m = self.machine((1, ("fork", 3)))
        self.barred(ring, m, ("ring", [3]))
        told = image(row(3, handles=((0, 0),)), things=(("file", 0, 0),), files=(("a", ""),))
        self.barred(told, m, ("number", 3))
        self.barred(told, Machine(), ("path", "a"))


PLAN = (((1, ("fork", 5)), (1, ("fork", 6)), (5, ("lead",)), (6, ("lead",)), (5, ("adopt",))), ((0, 2), (1, 3)))


class Orders(Case):
    def test_orders(self):
        for order in ([0, 1, 2, 3, 4], [0, 2, 4, 1, 3], [0, 1, 3, 2, 4], [0, 2, 1, 3, 4]):
            self.assertIs(is_order(PLAN, order), True)
            self.assertIs(is_order(listed(PLAN), order), True)
        self.assertIs(is_order(((), ()), []), True)
        self.assertIs(is_order(thing=[0], plan=(((1, ("lead",)),), ())), True)

    def test_spoilt(self):
        for thing in ([1, 0, 2, 3, 4], [0, 1, 4, 3, 2], [2, 0, 1, 3, 4], [0, 1, 2, 3], [0, 1, 2, 3, 4, 4],
                      [0, 1, 2, 3, 5], [0, 1, 2, 3, -1], [0, 0, 2, 3, 4], [], (0, 1, 2, 3, 4), [False, True, 2, 3, 4],
                      [0, True, 2, 3, 4], ["0", 1, 2, 3, 4], [None] * 5, [[0], 1, 2, 3, 4], [(0,), 1, 2, 3, 4], None, 0,
                      "01234", True, [[0, 1, 2, 3, 4]], ([0, 1, 2, 3, 4],)):
            with self.subTest(thing):
                self.assertIs(is_order(PLAN, thing), False)
        self.assertIs(is_order(((), ()), ()), False)
        self.assertIs(is_order(((), ()), [0]), False)

    def test_pairs_the_other_way(self):
        steps = ((1, ("fork", 5)), (5, ("lead",)), (1, ("fork", 6)))
        self.assertIs(is_order((steps, ((2, 1),)), [0, 1, 2]), False)
        self.assertIs(is_order((steps, ((2, 1),)), [0, 2, 1]), True)
        self.assertIs(is_order((steps, ((0, 1), (1, 0))), [0, 1, 2]), False)
        self.assertIs(is_order((steps, ((1, 1),)), [0, 1, 2]), False)
        self.assertIs(is_order((steps, ()), [1, 0, 2]), True)


class Playing(Case):
    def test_play(self):
        m = Machine()
        for order in (None, [0, 1, 2, 3, 4], (0, 2, 4, 1, 3), [0, 2, 4, 1, 3]):
            twin = play(m, PLAN, order)
            self.assertIsInstance(twin, Machine)
            self.exact(twin.numbers(), [1, 5, 6])
            self.exact(freeze(twin, 5), image(row(5, session=5, adopts=True)))
            self.exact(m.numbers(), [1])
            twin.do(1, ("fork", 9))
            self.exact(m.numbers(), [1])
        self.exact(state(play(m, listed(PLAN))), state(play(m, PLAN)))
        self.exact(state(play(order=[0, 1, 2, 3, 4], plan=PLAN, machine=m)), state(play(m, PLAN)))
        self.exact(state(play(m, ((), ()))), state(m))

    def test_steps_of_others(self):
        m = Machine()
        m.do(1, ("fork", 9))
        self.exact(freeze(play(m, (((9, ("lead",)),), ())), 9), image(row(9, session=9)))

    def test_steps_that_wait_and_answer(self):
        steps = ((1, ("pipe",)), (1, ("fork", 5)), (5, ("read", 0, 1)), (1, ("write", 1, "x")))
        twin = play(Machine(), (steps, ((1, 2),)))
        self.exact(twin.do(1, ("about", 5))[0][1][2], "runs")
        self.exact(play(Machine(), (steps[:3], ())).do(1, ("about", 5))[0][1][2], "waits")

    def test_no_order(self):
        m = Machine()
        for order in ([1, 0, 2, 3, 4], [0, 1, 2, 3], (0, 1, 2, 3), [], (), [0, 1, 2, 3, 3], [0, True, 2, 3, 4],
                      [2, 0, 1, 3, 4]):
            with self.subTest(order):
                self.assertRaises(NoOrder, play, m, PLAN, order)
        self.assertRaises(NoOrder, play, m, (PLAN[0], ((2, 0),)))
        self.assertRaises(NoOrder, play, m, (PLAN[0], ((2, 0),)), None)
        self.exact(m.numbers(), [1])

    def test_no_order_before_bad_step(self):
        self.assertRaises(NoOrder, play, Machine(), (((5, ("lead",)),), ()), [])

    def bad_step(self, machine, plan, order, index):
        before = repr(state(machine))
        with self.assertRaises(BadStep) as caught:
            play(machine, plan, order)
        self.exact(caught.exception.index, index)
        self.assertEqual(repr(state(machine)), before)

    def test_bad_steps(self):
        m = Machine()
        self.bad_step(m, (((5, ("lead",)),), ()), None, 0)
        self.bad_step(m, (((1, ("fork", 5)), (1, ("fork", 5))), ()), None, 1)
        self.bad_step(m, (((1, ("pipe",)), (1, ("read", 0, 1))), ()), None, 1)
        self.bad_step(m, (((1, ("fork", 5)), (5, ("end", 0)), (5, ("lead",))), ()), None, 2)

    def test_first_in_this_order(self):
        steps = ((1, ("fork", 5)), (1, ("fork", 6)), (6, ("get", 9)), (5, ("get", 9)), (7, ("lead",)))
        self.bad_step(Machine(), (steps, ()), None, 2)
        self.bad_step(Machine(), (steps, ()), [0, 3, 1, 2, 4], 3)
        self.bad_step(Machine(), (steps, ()), (0, 1, 4, 3, 2), 4)
        self.bad_step(Machine(), (steps, ()), [3, 0, 1, 2, 4], 3)

    def test_states_in_which_a_process_does_not_run(self):
        steps = ((1, ("fork", 5)), (1, ("send", "stop", 5)), (5, ("lead",)))
        self.bad_step(Machine(), (steps, ()), None, 2)
        self.exact(play(Machine(), (steps, ()), [0, 2, 1]).do(1, ("about", 5))[0][1][:3], (5, 5, "stopped"))
        steps = ((1, ("pipe",)), (1, ("fork", 5)), (5, ("read", 0, 1)), (5, ("lead",)))
        self.bad_step(Machine(), (steps, ()), None, 3)


class HelpersOf(Case):
    def test_forks_less_processes(self):
        self.exact(helpers_of(image(row(5), row(6, 5)), PLAN), 0)
        self.exact(helpers_of(image(row(5)), PLAN), 1)
        self.exact(helpers_of(listed(image(row(5))), listed(PLAN)), 1)
        self.exact(helpers_of(plan=((), ()), image=image(row(5))), -1)
        told = image(row(5, session=9, group=8))
        self.exact(helpers_of(told, plan(told, Machine())), 2)


if __name__ == "__main__":
    unittest.main()
