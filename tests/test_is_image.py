"""[9] is_image: for each rule right images, and ones that break just this rule."""

import random
import unittest

from tests.drawing import Drawn
from tests.helper import ZEROS, Case, image, listed, part, places, put, row
from treethaw.images import is_image

ENDS = ((0, 0), (1, 1))
PIPE = (("reads", 0), ("writes", 0))
PAIR = (("side", 0, 0), ("side", 0, 1))
EMPTY = ((), (), ())

FULL = image(
    row(2, 7, 7, 2, handles=((0, 0), (1, 1), (9, 2))),
    row(3, 7, 7, 7, word="waits", call=("read", 5, 2), cells=(1, -2, 3, 10 ** 15), handles=((5, 0), (10 ** 15, 3))),
    row(7, None, 7, 7, True, "stopped", call=("wait", 0), handles=((0, 3), (1, 4), (2, 5), (3, 3), (4, 6))),
    row(8, 7, 1, 199, code=-4),
    row(199, 2, 199, 1),
    things=(("reads", 0), ("file", 0, 3), ("area", 0), ("side", 0, 0), ("writes", 0), ("file", 1, 0), ("file", 0, 3),
            ("area", 1), ("side", 0, 1), ("reads", 1)),
    pipes=(("", (3,), ()), ("12345678", (), ())),
    pairs=(((("12345678", 7, 3, 8), (), ()), (("x", 9), (), ())),),
    areas=(ZEROS, (5, 0, -1, 0)), files=(("log", "abc"), (None, "")))

READ = image(row(5, word="waits", call=("read", 0, 1), handles=ENDS), things=PIPE, pipes=(("", (5,), ()),))
WRITE = image(row(5, word="waits", call=("write", 1, "ab"), handles=ENDS), things=PIPE, pipes=(("1234567", (), (5,)),))
TAKE = image(row(5, word="waits", call=("take", 1), handles=ENDS), things=PAIR, pairs=((EMPTY, ((), (5,), ())),))
PASS = image(row(5, word="waits", call=("pass", 1, 0), handles=ENDS), things=PAIR,
             pairs=(((("a", "b", 0, "d"), (), ()), ((), (), (5,))),))
WAIT = image(row(5, word="waits", call=("wait", 0)), row(6, 5))

RIGHT = [FULL, READ, WRITE, TAKE, PASS, WAIT]


def stopped(told):
    """The image with its first process stopped."""
    return put(told, (0, 0, 5), "stopped")


class Asked(Case):
    def right(self, thing):
        self.assertIs(is_image(thing), True, thing)

    def wrong(self, thing):
        self.assertIs(is_image(thing), False, thing)

    def wrong_at(self, told, at, *values):
        """Other values at one place of a right image make it wrong."""
        self.right(told)
        for value in values:
            with self.subTest(at=at, value=value):
                self.wrong(put(told, at, value))

    def right_at(self, told, at, *values):
        for value in values:
            with self.subTest(at=at, value=value):
                self.right(put(told, at, value))


class Kinds(Asked):
    def test_right_ones(self):
        for told in RIGHT:
            self.right(told)

    def test_other_values(self):
        for thing in (None, True, 0, 5, "", "image", (), [], (1,), (()), ((),) * 6, ((),) * 5, ((),) * 7,
                      (None,) * 6, ("",) * 6, ((), (), (), (), (), [])):
            with self.subTest(thing):
                self.wrong(thing)

    def test_lists_for_tuples(self):
        for told in RIGHT:
            self.wrong(listed(told))
            for at in places(told):
                if isinstance(part(told, at), tuple):
                    with self.subTest(told=told, at=at):
                        self.wrong(put(told, at, list(part(told, at))))

    def test_bools_for_numbers(self):
        for told in RIGHT:
            for at in places(told):
                value = part(told, at)
                if isinstance(value, int) and not isinstance(value, bool):
                    with self.subTest(told=told, at=at):
                        self.wrong(put(told, at, bool(value)))
                        self.wrong(put(told, at, True))

    def test_numbers_for_bools(self):
        for at, value in [((0, 0, 4), 0), ((0, 2, 4), 1)]:
            self.wrong_at(FULL, at, value, None, "", "yes", ())

    def test_values_of_other_kinds(self):
        """No part can be exchanged for one of another kind, but for paths, letters and the call of a stopped one."""
        for told in RIGHT:
            for at in places(told)[1:]:
                value = part(told, at)
                for other in (None, "", "a", (), (1,), ((),), [], False):
                    free = (value is None or isinstance(value, str)) and (other is None or isinstance(other, str))
                    letter = at[0] == 3 and isinstance(other, str)
                    call = at == (0, 2, 7) and other is None
                    if not (free or isinstance(other, type(value)) or letter or call):
                        with self.subTest(told=told, at=at, other=other):
                            self.wrong(put(told, at, other))

    def test_one_item_more_or_less(self):
        for told in RIGHT:
            for at in places(told):
                value = part(told, at)
                letters = at[0:1] == (3,) and len(at) == 4 and at[3] == 0
                if isinstance(value, tuple) and value and not letters:
                    with self.subTest(told=told, at=at):
                        for other in (value + (value[-1],), value + (None,), value + ((),)):
                            self.wrong(put(told, at, other))
        # A process less is another image, a letter less too.
        self.right(put(FULL, (0,), FULL[0][:4]))
        self.right(put(FULL, (3, 0, 1, 0), ("x", 9)))
        for at in [(), (0, 0), (0, 3), (1, 0), (1, 1), (2, 0), (3, 0), (3, 0, 0), (4, 0), (5, 0), (0, 0, 8)]:
            self.wrong(put(FULL, at, part(FULL, at)[:-1]))


class Numbers(Asked):
    def test_numbers_of_processes(self):
        single = image(row(2))
        self.right_at(single, (0, 0, 0), 2, 3, 198, 199)
        self.wrong_at(single, (0, 0, 0), 1, 0, -2, 200, 10 ** 12, "2", None)

    def test_sessions_and_groups(self):
        single = image(row(2))
        for at in (2, 3):
            self.right_at(single, (0, 0, at), 1, 2, 77, 199)
            self.wrong_at(single, (0, 0, at), 0, -1, 200, None, "1")

    def test_ascending(self):
        self.right(image(row(2), row(3, 2), row(4, 2)))
        self.wrong(image(row(2), row(4, 2), row(3, 2)))
        self.wrong(image(row(3, 2), row(2)))
        self.wrong(image(row(2), row(3, 2), row(3, 2)))
        self.wrong(image(row(2), row(2)))

    def test_no_process(self):
        self.wrong(image())

    def test_cells(self):
        single = image(row(2))
        self.right_at(single, (0, 0, 8), (1, 2, 3, -10 ** 30))
        self.wrong_at(single, (0, 0, 8), (), (0, 0, 0), (0, 0, 0, 0, 0), (0, 0, 0, None), (0, "0", 0, 0))

    def test_codes(self):
        pair = image(row(2), row(3, 2, code=0))
        self.right_at(pair, (0, 1, 6), 1, -1, 10 ** 20)
        self.wrong_at(pair, (0, 1, 6), None, "0", ())
        self.wrong_at(pair, (0, 0, 6), 0, -1, ())


class Families(Asked):
    def test_parents(self):
        told = image(row(2, 3), row(3), row(4, 2))
        self.right_at(told, (0, 2, 1), 2, 3)
        self.wrong_at(told, (0, 2, 1), 4, 5, 1, 0, None, "2")
        self.wrong_at(told, (0, 1, 1), 2, 3, 4, 1)

    def test_two_roots(self):
        self.wrong(image(row(2), row(3)))

    def test_rings(self):
        self.right(image(row(2), row(3, 2), row(4, 3), row(5, 4)))
        self.wrong(image(row(2), row(3, 4), row(4, 3)))
        self.wrong(image(row(2), row(3, 3)))
        self.wrong(image(row(2), row(3, 5), row(4, 3), row(5, 4)))

    def test_ended_ones(self):
        told = image(row(2), row(3, 2, code=1))
        self.wrong_at(told, (0, 1), row(3, 2, code=1, adopts=True), row(3, 2, code=1, cells=ZEROS),
                      row(3, 2, code=1, call=("wait", 0)), row(3, 2, word="ended", cells=()))
        self.wrong(image(row(2), row(3, 2, code=1), row(4, 3)))
        self.wrong(image(row(2), row(3, 2, code=1), row(4, 3, code=1)))
        self.right(image(row(2), row(3, 2), row(4, 3, code=1)))
        self.wrong(image(row(2), row(3, 2, code=1, handles=((0, 0),)), things=(("area", 0),), areas=(ZEROS,)))

    def test_root_has_ended(self):
        self.wrong(image(row(2, code=0)))

    def test_words(self):
        single = image(row(2))
        self.right_at(single, (0, 0, 5), "runs", "stopped")
        self.wrong_at(single, (0, 0, 5), "waits", "ended", "run", "", None, ("runs",), True)

    def test_words_and_calls(self):
        self.right(WAIT)
        self.right(stopped(WAIT))
        self.wrong_at(WAIT, (0, 0, 5), "runs", "ended")
        self.wrong_at(WAIT, (0, 0, 7), None)
        self.right(put(stopped(WAIT), (0, 0, 7), None))


class Things(Asked):
    def test_handles(self):
        told = image(row(5, handles=((3, 0), (7, 1))), things=(("area", 0), ("area", 1)), areas=(ZEROS, ZEROS))
        self.right_at(told, (0, 0, 9), ((0, 0), (10 ** 20, 1)), ((0, 0), (1, 0), (2, 1)))
        self.wrong_at(told, (0, 0, 9), ((7, 0), (3, 1)), ((3, 0), (3, 1)), ((-1, 0), (0, 1)), ((0, 0), (1, 2)),
                      ((0, 0), (1, -1)), ((0, 0), ("1", 1)), ((0, 0, 0), (1, 1)), (0, 1), (((0, 0), (1, 1)),))

    def test_kinds_of_things(self):
        for at in range(len(FULL[1])):
            self.wrong_at(FULL, (1, at), (), ("file",), ("reads", 0, 0), ("pipe", 0), ("", 0), (0, 0), ("area", 2),
                          ("area", -1), ("side", 0, 2), ("side", 0, -1), ("side", 1, 0), ("reads", 2), ("file", 2, 0),
                          ("side", 0), ("file", 0), ("writes", "0"), "reads", None)

    def test_each_thing_once(self):
        told = image(row(5, handles=ENDS), things=PIPE, pipes=(("", (), ()),))
        for thing, parts in [(("reads", 0), dict(pipes=(("", (), ()),))), (("area", 0), dict(areas=(ZEROS,))),
                             (("writes", 0), dict(pipes=(("", (), ()),))),
                             (("side", 0, 0), dict(pairs=((EMPTY, EMPTY),)))]:
            self.right(image(row(5, handles=((0, 0),)), things=(thing,), **parts))
            self.wrong(image(row(5, handles=((0, 0), (1, 1))), things=(thing, thing), **parts))
        self.right(told)

    def test_openings_may_be_alike(self):
        self.right(image(row(5, handles=ENDS), things=(("file", 0, 1), ("file", 0, 1)), files=(("a", "xy"),)))
        self.right(image(row(5, handles=ENDS), things=(("file", 0, 1), ("file", 0, 1)), files=((None, "xy"),)))

    def test_places(self):
        told = image(row(5, handles=((0, 0),)), things=(("file", 0, 0),), files=(("a", "xyz"),))
        self.right_at(told, (1, 0, 2), 0, 1, 3)
        self.wrong_at(told, (1, 0, 2), 4, -1, None)
        self.right_at(told, (5, 0, 1), "", "x" * 1000)

    def test_paths(self):
        told = image(row(5, handles=ENDS), things=(("file", 0, 0), ("file", 1, 0)), files=(("a", ""), ("b", "")))
        self.right_at(told, (5, 0, 0), None, "z", "abcdefghijklmnopqrstuvwxyz", "aa")
        self.wrong_at(told, (5, 0, 0), "b", "", "A", "a b", "a1", 5, ("a",))
        self.right_at(told, (5,), ((None, "x"), (None, "x")))

    def test_texts_of_pipes(self):
        told = image(row(5, handles=ENDS), things=PIPE, pipes=(("", (), ()),))
        self.right_at(told, (2, 0, 0), "", "a", "12345678", "~ %")
        self.wrong_at(told, (2, 0, 0), "123456789", None, 5, ("a",))

    def test_text_without_a_reading_end(self):
        told = image(row(5, handles=((0, 0),)), things=(("writes", 0),), pipes=(("", (), ()),))
        self.wrong_at(told, (2, 0, 0), "a", "12345678")
        self.right(image(row(5, handles=((0, 0),)), things=(("reads", 0),), pipes=(("a", (), ()),)))

    def test_letters(self):
        told = image(row(5, handles=ENDS), things=PAIR, pairs=((EMPTY, EMPTY),))
        for turn in (0, 1):
            self.right_at(told, (3, 0, turn, 0), ("a",), ("12345678", 0, 1, "%"), (0, 0, 0, 0))
            self.wrong_at(told, (3, 0, turn, 0), ("",), ("123456789",), (2,), (-1,), ("a", "b", "c", "d", "e"), (None,),
                          (("a",),), "a")

    def test_letters_of_a_side_that_is_not_held(self):
        told = image(row(5, handles=((0, 0),)), things=(("side", 0, 0),), pairs=((EMPTY, EMPTY),))
        self.right_at(told, (3, 0, 0, 0), ("a",), (0,))
        self.wrong_at(told, (3, 0, 1, 0), ("a",), (0,))


class Order(Asked):
    def test_things(self):
        told = image(row(4, handles=((0, 0),)), row(5, 4, handles=((2, 1), (3, 0), (4, 2))),
                     things=(("area", 0), ("area", 1), ("area", 2)), areas=((1, 0, 0, 0), (2, 0, 0, 0), ZEROS))
        self.wrong_at(told, (0, 0, 9), ((0, 1),), ((0, 2),))
        self.wrong_at(told, (0, 1, 9), ((2, 2), (3, 0), (4, 1)), ((2, 1), (3, 0)), ())
        self.right_at(told, (0, 1, 9), ((2, 0), (3, 1), (4, 2)))

    def test_things_that_are_not_met(self):
        self.right(image(row(5)))
        self.wrong(image(row(5), things=(("area", 0),), areas=(ZEROS,)))
        for at, value in [(2, ("", (), ())), (3, (EMPTY, EMPTY)), (4, ZEROS), (5, ("a", ""))]:
            self.wrong_at(image(row(5)), (at,), (value,))

    def test_parts_by_things(self):
        for things, at, values in [
                ((("reads", 0), ("writes", 1)), 2, (("a", (), ()), ("", (), ()))),
                ((("writes", 0), ("reads", 1)), 2, (("", (), ()), ("a", (), ()))),
                ((("side", 0, 0), ("side", 1, 0)), 3, ((EMPTY, EMPTY), (EMPTY, EMPTY))),
                ((("area", 0), ("area", 1)), 4, (ZEROS, ZEROS)),
                ((("file", 0, 0), ("file", 1, 0)), 5, (("a", ""), ("b", "")))]:
            told = put(image(row(5, handles=ENDS), things=things), (at,), values)
            self.right(told)
            self.wrong(put(told, (1,), things[::-1]))
            self.wrong(put(told, (1,), (put(things[0], (1,), 1), things[1])))
            self.wrong(put(told, (at,), values[:1]))

    def test_side_met_first(self):
        told = image(row(5, handles=ENDS), things=PAIR, pairs=((EMPTY, EMPTY),))
        self.wrong_at(told, (1,), (PAIR[1], PAIR[0]))
        self.wrong(image(row(5, handles=((0, 0),)), things=(("side", 0, 1),), pairs=((EMPTY, EMPTY),)))

    def test_letters_come_behind(self):
        told = image(row(4, handles=((0, 0),)), row(5, 4, handles=((0, 1),)),
                     things=(("side", 0, 0), ("area", 0), ("side", 1, 0), ("area", 1), ("area", 2)),
                     pairs=((((2, 3), (), ()), EMPTY), (((4, 1), (), ()), EMPTY)), areas=(ZEROS,) * 3)
        self.right(told)
        self.wrong_at(told, (3, 0, 0, 0), (3, 2), (2,), (2, 4), (1, 2))
        self.wrong_at(told, (3, 1, 0, 0), (), (1,), (3,))
        self.right_at(told, (3, 1, 0, 0), (4,), (4, 4, 2))

    def test_sides_only_in_each_others_rows(self):
        self.wrong(image(row(5), things=PAIR, pairs=((((0,), (), ()), ((1,), (), ())),)))
        self.wrong(image(row(5, handles=((0, 0),)), things=(("area", 0), *PAIR), areas=(ZEROS,),
                         pairs=((((2,), (), ()), ((1,), (), ())),)))


class Rows(Asked):
    def test_calls_that_never_wait(self):
        for call in [("lead",), ("get", 0), ("handles",), ("read", 0), ("read", 0, 0), ("read",), ("fork", 9), (),
                     ("x",), ["read", 0, 1], "read", ("read", 0, True), ("close", 0), ("seek", 0, 0), ("end", 0)]:
            self.wrong_at(READ, (0, 0, 7), call)
            self.wrong_at(stopped(READ), (0, 0, 7), call)

    def test_handles_and_kinds(self):
        for base in (READ, stopped(READ)):
            self.wrong_at(base, (0, 0, 7), ("read", 2, 1), ("read", 1, 1), ("take", 0), ("write", 0, "a"),
                          ("write", 1, "a"), ("pass", 0, 0))
        for base in (WRITE, stopped(WRITE)):
            self.wrong_at(base, (0, 0, 7), ("write", 0, "ab"), ("write", 2, "ab"), ("read", 0, 1), ("pass", 1, 0))
        for base in (TAKE, stopped(TAKE)):
            self.right_at(base, (0, 0, 7), ("read", 1, 5), ("take", 1))
            self.wrong_at(base, (0, 0, 7), ("take", 0), ("take", 2), ("read", 0, 1), ("pass", 1, 1))
        for base in (PASS, stopped(PASS)):
            self.right_at(base, (0, 0, 7), ("write", 1, "12345678"), ("pass", 1, 1))
            self.wrong_at(base, (0, 0, 7), ("pass", 1, 2), ("pass", 0, 1), ("pass", 2, 1), ("write", 0, "a"),
                          ("take", 1))

    def test_other_things(self):
        for thing, parts in [(("area", 0), dict(areas=(ZEROS,))), (("file", 0, 0), dict(files=(("a", "x"),)))]:
            for call in (("read", 0, 1), ("write", 0, "a"), ("take", 0), ("pass", 0, 0)):
                for word in ("waits", "stopped"):
                    self.wrong(image(row(5, word=word, call=call, handles=((0, 0),)), things=(thing,), **parts))

    def test_lengths(self):
        self.right_at(WRITE, (0, 0, 7), ("write", 1, "12345678"))
        for base in (WRITE, stopped(WRITE), PASS, stopped(PASS)):
            self.wrong_at(base, (0, 0, 7), ("write", 1, "123456789"), ("write", 1, ""))

    def test_waits_for_children(self):
        for base in (WAIT, stopped(WAIT)):
            self.right_at(base, (0, 0, 7), ("wait", 6), ("wait", 0))
            self.wrong_at(base, (0, 0, 7), ("wait", 5), ("wait", 7), ("wait", 1))
            self.wrong(put(base, (0,), base[0][:1]))
        grandchild = image(row(5, word="waits", call=("wait", 6)), row(6, 5), row(7, 6))
        self.wrong_at(grandchild, (0, 0, 7), ("wait", 7))

    def test_ended_children(self):
        ended = put(WAIT, (0, 1), row(6, 5, code=2))
        self.wrong(ended)
        self.right(stopped(ended))
        for who, wanted in [(6, False), (7, True), (0, False)]:
            told = image(row(5, word="waits", call=("wait", who)), row(6, 5, code=2), row(7, 5))
            self.assertIs(is_image(told), wanted)
            self.right(stopped(told))

    def test_stands_in_its_row(self):
        for base, at in [(READ, (2, 0, 1)), (WRITE, (2, 0, 2)), (TAKE, (3, 0, 1, 1)), (PASS, (3, 0, 1, 2))]:
            for told in (base, stopped(base)):
                self.wrong_at(told, at, (), (5, 5), (6,), (5, 6), (6, 5), (5.0,), ("5",))

    def test_stands_in_no_other_row(self):
        for base, at, others in [(READ, (2, 0, 1), [(2, 0, 2)]), (WRITE, (2, 0, 2), [(2, 0, 1)]),
                                 (TAKE, (3, 0, 1, 1), [(3, 0, 0, 1), (3, 0, 0, 2), (3, 0, 1, 2)]),
                                 (PASS, (3, 0, 1, 2), [(3, 0, 0, 1), (3, 0, 0, 2), (3, 0, 1, 1)])]:
            for told in (base, stopped(base)):
                for other in others:
                    self.wrong(put(told, other, (5,)))
                    self.wrong(put(put(told, at, ()), other, (5,)))

    def test_nobody_else_stands_in_a_row(self):
        more = image(row(5, word="waits", call=("read", 0, 1), handles=ENDS), row(6, 5), things=PIPE,
                     pipes=(("", (5,), ()),))
        self.wrong_at(more, (2, 0, 1), (5, 6), (6, 5), (6,))
        self.wrong_at(more, (2, 0, 2), (6,), (5,))
        self.right(put(put(more, (0, 1), row(6, 5, word="stopped", call=("read", 3, 1), handles=((3, 0),))), (2, 0, 1),
                       (6, 5)))

    def test_wait_stands_in_no_row(self):
        told = image(row(5, word="waits", call=("wait", 6), handles=ENDS), row(6, 5), things=PIPE,
                     pipes=(("", (), ()),))
        self.wrong_at(told, (2, 0, 1), (5,))


class Turns(Asked):
    def test_read_of_a_pipe(self):
        self.wrong_at(READ, (2, 0, 0), "a", "12345678")
        self.right_at(stopped(READ), (2, 0, 0), "a", "12345678")
        alone = image(row(5, word="waits", call=("read", 0, 1), handles=((0, 0),)), things=(("reads", 0),),
                      pipes=(("", (5,), ()),))
        self.wrong(alone)
        self.right(stopped(alone))

    def test_write_to_a_pipe(self):
        self.right_at(WRITE, (2, 0, 0), "12345678")
        self.wrong_at(WRITE, (2, 0, 0), "123456", "")
        self.right_at(stopped(WRITE), (2, 0, 0), "123456", "")
        alone = image(row(5, word="waits", call=("write", 1, "12345678"), handles=((1, 0),)), things=(("writes", 0),),
                      pipes=(("", (), (5,)),))
        self.wrong(alone)
        self.right(stopped(alone))

    def test_letters(self):
        for call in (("take", 1), ("read", 1, 1)):
            told = put(TAKE, (0, 0, 7), call)
            self.wrong_at(told, (3, 0, 1, 0), ("a",), (0,))
            self.right_at(stopped(told), (3, 0, 1, 0), ("a",), (0,))
            self.right_at(told, (3, 0, 0, 0), ("a",), (0,))
            alone = image(row(5, word="waits", call=call, handles=((1, 0),)), things=(("side", 0, 0),),
                          pairs=((((), (5,), ()), EMPTY),))
            self.wrong(alone)
            self.right(stopped(alone))

    def test_sending(self):
        for call in (("pass", 1, 1), ("write", 1, "z")):
            told = put(PASS, (0, 0, 7), call)
            self.wrong_at(told, (3, 0, 0, 0), ("a", "b", "c"), ())
            self.right_at(stopped(told), (3, 0, 0, 0), ("a", "b", "c"), ())
            alone = image(row(5, word="waits", call=call, handles=((1, 0),)), things=(("side", 0, 0),),
                          pairs=((((), (), (5,)), EMPTY),))
            self.wrong(alone)
            self.right(stopped(alone))

    def test_stopped_ones_ahead(self):
        first = row(5, word="stopped", call=("write", 1, "a"), handles=ENDS)
        for text, wanted in [("1234", True), ("123", False), ("", False)]:
            told = image(first, row(6, 5, word="waits", call=("write", 1, "vwxyz"), handles=ENDS), things=PIPE,
                         pipes=((text, (), (5, 6)),))
            self.assertIs(is_image(told), wanted)
            self.assertIs(is_image(put(told, (2, 0, 2), (6, 5))), wanted)
            self.right(put(told, (0, 1, 5), "stopped"))
            self.wrong(put(told, (0, 0, 5), "waits"))

    def test_only_the_first_counts(self):
        told = image(row(5, word="waits", call=("write", 1, "12345678"), handles=ENDS),
                     row(6, 5, word="waits", call=("write", 1, "a"), handles=ENDS), things=PIPE,
                     pipes=(("1234567", (), (5, 6)),))
        self.right(told)
        self.wrong(put(told, (2, 0, 2), (6, 5)))

    def test_rows_of_the_two_sides(self):
        told = image(row(5, word="waits", call=("read", 0, 1), handles=ENDS),
                     row(6, 5, word="waits", call=("take", 1), handles=ENDS), things=PAIR,
                     pairs=((((), (5,), ()), ((), (6,), ())),))
        self.right(told)
        self.wrong_at(told, (3, 0), (((), (6,), ()), ((), (5,), ())), (((), (5, 6), ()), EMPTY))


class Many(Asked):
    def test_drawn_images(self):
        for seed in range(150):
            r = random.Random(seed)
            self.right(Drawn(r, r.randint(1, 12), r.choice([0, 3, 8, 20]), [("log", "abc"), ("b", "")]).image())

    def test_things_that_change_places(self):
        """All indices follow, but the things are not numbered by first meeting any more."""
        for seed in range(60):
            r = random.Random(seed)
            told = Drawn(r, r.randint(1, 5), 8, [("log", "abc")]).image()
            for at in range(len(told[1]) - 1):
                swapped = (*told[1][:at], told[1][at + 1], told[1][at], *told[1][at + 2:])
                if swapped != told[1]:
                    moved = {at: at + 1, at + 1: at}
                    processes = tuple(put(p, (9,), tuple((h, moved.get(k, k)) for h, k in p[9])) for p in told[0])
                    pairs = told[3]
                    for place in [p for p in places(pairs) if len(p) == 4 and p[2] == 0]:
                        letter = part(pairs, place)
                        pairs = put(pairs, place, moved.get(letter, letter))
                    self.wrong((processes, swapped, told[2], pairs, *told[4:]))


if __name__ == "__main__":
    unittest.main()
