"""[15] the desk."""

import random
import unittest
import unittest.mock

from tests.helper import Case, image, row
from tests.test_model import EVEN, FAMILIES_MOST, LETTERS_MOST, Caller, Model
from treethaw.bars import bar, helpers
from treethaw.desk import Desk, answers, obey
from treethaw.errors import BadLine, Barred, NoProcess, NotRunning, Outside
from treethaw.images import freeze, is_image, state
from treethaw.machine import Machine
from treethaw.plans import plan, play

CALLS = """fork 7, lead, adopt, join 1 1, end 0, wait 0, send stop 5, sendall wake 1, about 1, get 0, set 0 -5, make log abc,
    remove log, open log, seek 0 0, pipe, pair, area, copy 0 1, close 0, handles, same 0 1 0, peek 0 0, poke 0 0 -7,
    read 0 1, write 0 abc, pass 0 0, take 0"""


class DeskCase(Case):
    def sheet(self, rows):
        """Pairs of a line and its answer."""
        self.exact(answers("\n".join(line for line, _ in rows)), [answer for _, answer in rows])

    def bad(self, text, number=0):
        with self.assertRaises(BadLine) as caught:
            answers(text)
        self.exact(caught.exception.number, number)


class Answers(DeskCase):
    def test_families(self):
        self.sheet([
            ("1 fork 5", "told 5"), ("5 lead", "told"), ("5 lead", "refused group"), ("5 adopt", "told"),
            ("5 fork 6", "told 6"), ("5 adopt", "refused children"), ("6 join 6 6", "told"), ("5 join 6 1", "refused no group"),
            ("5 join 5 5", "refused leads"), ("1 join 6 1", "refused no child"), ("1 about 6", "told 5 6 runs none none"),
            ("5 wait 0", "waits"), ("5 about 5", "not running"), ("1 about 5", "told 5 5 waits 0 wait 0"),
            ("6 end -44", "told; 5 told 6 -44"), ("1 about 6", "refused no process"), ("5 wait 0", "refused no child"),
            ("1 end 0", "refused first"), ("1 send stop 1", "refused first"), ("1 send stop 6", "refused no process"),
            ("1 send stop 5", "told"), ("5 lead", "not running"), ("1 about 5", "told 5 5 stopped none none"),
            ("1 sendall go 5", "told 1"), ("1 sendall go 1", "refused no group"), ("1 fork 200", "refused taken"),
            ("5 end 3", "told"), ("1 about 5", "told 5 5 ended none none"), ("1 wait 5", "told 5 3"),
            ("77 lead", "not running"), ("0 lead", "not running"), ("9999999999999 lead", "not running")])

    def test_things(self):
        self.sheet([
            ("1 handles", "told empty"), ("1 pipe", "told 0 1"), ("1 handles", "told 0 1"), ("1 pair", "told 2 3"),
            ("1 area", "told 4"), ("1 peek 4 0", "told 0"), ("1 poke 4 0 -9", "told"), ("1 peek 4 0", "told -9"),
            ("1 peek 4 4", "refused place"), ("1 peek 9 0", "refused no handle"), ("1 peek 3 0", "refused kind"),
            ("1 get 0", "told 0"), ("1 set 0 1000000000000", "told"), ("1 get 0", "told 1000000000000"),
            ("1 set 0 -9999999999999", "told"), ("1 get 0", "told -9999999999999"), ("1 set 4 0", "refused place"),
            ("1 same 0 1 1", "told no"), ("1 same 0 1 0", "told yes"), ("1 same 0 2 0", "refused no process"),
            ("1 write 1 a;b,(c)", "told 7"), ("1 read 0 3", "told a;b"), ("1 read 0 99", "told ,(c)"),
            ("1 read 0 1", "refused first"), ("1 write 1 123456789", "refused long"), ("1 close 1", "told"),
            ("1 read 0 1", "told empty"), ("1 copy 0 1000000000000", "told 1000000000000"),
            ("1 handles", "told 0 2 3 4 1000000000000"), ("1 pass 2 4", "told"), ("1 read 3 1", "refused letter"),
            ("1 take 3", "told 1"), ("1 write 2 none", "told 4"), ("1 take 3", "refused letter"), ("1 read 3 1", "told none"),
            ("1 close 2", "told"), ("1 read 3 1", "told empty"), ("1 take 3", "told"), ("1 write 3 x", "refused alone")])

    def test_files(self):
        self.sheet([
            ("1 open log", "refused no path"), ("1 make log abc", "told"), ("1 make log x", "refused taken"),
            ("1 open log", "told 0"), ("1 read 0 2", "told ab"), ("1 seek 0 4", "refused place"), ("1 seek 0 1", "told"),
            ("1 write 0 ZZZZ", "told 4"), ("1 seek 0 0", "told"), ("1 read 0 99", "told aZZZZ"), ("1 read 0 99", "told empty"),
            ("1 remove log", "told"), ("1 remove log", "refused no path"), ("state", "1 1"), ("1 close 0", "told"),
            ("state", "1 0")])

    def test_others(self):
        self.sheet([
            ("1 pipe", "told 0 1"), ("1 fork 3", "told 3"), ("1 fork 12", "told 12"), ("1 fork 5", "told 5"),
            ("3 read 0 5", "waits"), ("12 read 0 2", "waits"), ("5 read 0 2", "waits"),
            ("1 about 5", "told 1 1 waits 2 read 0 2"), ("1 send wake 3", "told; 3 woken"),
            ("1 write 1 hello", "told 5; 5 told ll; 12 told he"),
            ("5 read 0 9", "told o"), ("5 read 0 9", "waits"), ("3 read 0 9", "waits"), ("12 fork 6", "told 6"),
            ("12 wait 6", "waits"), ("1 sendall wake 1", "told 4; 3 woken; 5 woken; 12 woken")])

    def test_others_are_refused_and_told_nothing(self):
        self.sheet([
            ("1 pair", "told 0 1"), ("1 fork 5", "told 5"), ("1 fork 6", "told 6"), ("5 close 1", "told"), ("6 close 1", "told"),
            ("5 read 0 1", "waits"), ("6 take 0", "waits"), ("1 pass 1 1", "told; 5 refused letter; 6 told 1"),
            ("5 take 0", "waits"), ("6 close 1", "told"), ("1 close 1", "told; 5 told"), ("6 write 0 a", "refused alone")])
        self.sheet([
            ("1 pipe", "told 0 1"), ("1 fork 5", "told 5"), ("5 close 0", "told"), ("5 write 1 12345678", "told 8"),
            ("5 write 1 x", "waits"), ("1 about 5", "told 1 1 waits 0 write 1 x"), ("1 close 0", "told; 5 refused alone")])

    def test_the_end_of_a_caller(self):
        self.sheet([
            ("1 fork 5", "told 5"), ("5 join 5 5", "told"), ("5 fork 6", "told 6"), ("6 fork 7", "told 7"),
            ("6 wait 7", "waits"), ("5 sendall end 5", "told 3"), ("1 wait 0", "told 5 -1"), ("1 wait 0", "told 6 -1"),
            ("1 wait 0", "told 7 -1"), ("1 wait 0", "refused no child"), ("state", "1 0")])


class Images(DeskCase):
    def test_no_image(self):
        self.sheet([("bar", "no image"), ("helpers", "no image"), ("thaw", "no image"), ("state", "1 0")])

    def test_freeze(self):
        self.sheet([
            ("freeze 1", "no process"), ("freeze 5", "no process"), ("freeze 0", "no process"), ("1 fork 5", "told 5"),
            ("freeze 5", "frozen 1"), ("5 fork 6", "told 6"), ("5 fork 7", "told 7"), ("7 end 1", "told"),
            ("freeze 5", "frozen 3"), ("freeze 7", "no process"), ("freeze 6", "frozen 1"), ("1 area", "told 0"),
            ("1 fork 8", "told 8"), ("freeze 8", "outside"), ("freeze 9999999999999", "no process")])

    def test_failing_freeze_drops_the_image(self):
        for line, answer in (("freeze 6", "outside"), ("freeze 1", "no process"), ("freeze 9", "no process")):
            self.sheet([
                ("1 fork 5", "told 5"), ("1 area", "told 0"), ("1 fork 6", "told 6"), ("freeze 5", "frozen 1"),
                ("bar", "none"), (line, answer), ("bar", "no image"), ("helpers", "no image"), ("thaw", "no image"),
                ("freeze 5", "frozen 1"), ("helpers", "0")])

    def test_sessions_without_a_leader(self):
        self.sheet([
            ("1 fork 4", "told 4"), ("4 adopt", "told"), ("4 fork 5", "told 5"), ("5 lead", "told"), ("5 fork 6", "told 6"),
            ("6 fork 7", "told 7"), ("7 lead", "told"), ("5 end 0", "told"), ("freeze 4", "frozen 4"),
            ("bar", "none"), ("helpers", "0"), ("4 wait 5", "told 5 0"), ("freeze 4", "frozen 3"), ("bar", "none"),
            ("helpers", "1"), ("thaw", "barred number"), ("freeze 6", "frozen 2"), ("bar", "none"), ("helpers", "1")])

    def test_barred_images(self):
        # No call leads to such a tree, so the image is put there by hand.
        desk = Desk()
        for told, word in [(image(row(2, session=2), row(3, 2, 9)), "session"),
                           (image(row(2), row(3, 2, 3, group=2)), "session"), (image(row(2, session=2), row(3, 2, 2, 1)), "group"),
                           (image(row(2, session=2, adopts=True), row(3, 2, 5), row(5, 3, 5)), "ring")]:
            desk.image = told
            self.assertTrue(is_image(told))
            self.exact([obey(desk, (line,)) for line in ("bar", "helpers", "thaw")], [word, "barred", "barred " + word])

    def test_thaw(self):
        self.sheet([
            ("1 make log abc", "told"), ("1 fork 5", "told 5"), ("5 open log", "told 0"), ("5 pipe", "told 1 2"),
            ("5 fork 6", "told 6"), ("6 read 1 3", "waits"), ("5 read 0 1", "told a"), ("freeze 5", "frozen 2"),
            ("state", "3 3"), ("thaw", "barred number"), ("1 send end 5", "told"), ("1 send end 6", "told"),
            ("1 wait 0", "told 5 -1"), ("thaw", "barred number"), ("1 wait 0", "told 6 -1"), ("1 remove log", "told"),
            ("thaw", "barred path"), ("1 make log ab", "told"), ("thaw", "barred path"), ("1 remove log", "told"),
            ("1 make log abc", "told"), ("state", "1 0"), ("thaw", "thawed"), ("state", "3 3"), ("thaw", "barred number"),
            ("6 handles", "not running"), ("5 write 2 hello", "told 5; 6 told hel"), ("5 read 0 9", "told bc"),
            ("freeze 5", "frozen 2")])

    def test_helpers(self):
        self.sheet([
            ("1 fork 5", "told 5"), ("1 fork 6", "told 6"), ("6 join 6 5", "told"), ("5 end 0", "told"), ("1 wait 5", "told 5 0"),
            ("freeze 6", "frozen 1"), ("bar", "none"), ("helpers", "1"), ("1 send end 6", "told"), ("1 wait 6", "told 6 -1"),
            ("thaw", "thawed"), ("1 about 6", "told 1 5 runs none none"), ("state", "2 0")])

    def test_image_is_kept_after_a_thaw(self):
        again = [("1 send end 5", "told"), ("1 wait 5", "told 5 -1"), ("thaw", "thawed"), ("5 get 0", "told 7")]
        self.sheet([("1 fork 5", "told 5"), ("5 set 0 7", "told"), ("freeze 5", "frozen 1"), *again, *again, *again])

    def test_sheets_do_not_share_anything(self):
        self.sheet([("1 fork 5", "told 5"), ("freeze 5", "frozen 1")])
        self.sheet([("bar", "no image"), ("1 fork 5", "told 5")])
        found = answers("state")
        found.append("x")
        self.exact(answers(text="state"), ["1 0"])


class Lines(DeskCase):
    def test_every_call_is_written(self):
        for call in CALLS.split(","):
            line = "1 " + " ".join(call.split())
            with self.subTest(line):
                self.assertEqual(len(answers(line)), 1)
                self.assertEqual(len(answers("1 fork 5\n5" + line[1:])), 2)

    def test_missing_and_further_words(self):
        for call in CALLS.split(","):
            line = "1 " + " ".join(call.split())
            with self.subTest(line):
                self.bad(line + " 0")
                self.bad(line + " x y")
                self.bad(line.rpartition(" ")[0])
                self.bad(line[2:])
                self.bad(line.upper())
                self.bad("1 " + line)

    def test_blanks(self):
        for line in ("1 fork 5", "1 lead", "freeze 5", "bar", "1 make log abc", "1 write 0 abc"):
            for at in range(len(line) + 1):
                if line[at - 1:at] == " " or line[at:at + 1] == " " or at in (0, len(line)):
                    self.bad(line[:at] + " " + line[at:])
        self.bad("1 make log ")
        self.bad("1 write 0 ")
        self.bad("1 make log")
        self.bad("1 write 0 a b")
        self.bad("1 make log a b")
        self.bad("1\tlead")

    def test_numbers(self):
        for digits in ("00", "01", "-0", "-01", "--1", "+1", "1.0", "1e1", "a", "1a", "-", "1" * 14, "-" + "1" * 14,
                       "10000000000000", "0x1", "1_0", "one", '"1"'):
            for line in ("{} lead", "freeze {}", "1 fork {}", "1 end {}", "1 set 0 {}", "1 set {} 0", "1 wait {}", "1 read 0 {}",
                         "1 same 0 {} 0", "1 poke 0 0 {}", "1 send stop {}", "1 copy 0 {}"):
                self.bad(line.format(digits))
        for line in ("1 end {}", "1 set 0 {}", "1 poke 0 0 {}"):
            for digits in ("0", "-1", "9999999999999", "-9999999999999", "1000000000000"):
                self.assertEqual(len(answers(line.format(digits))), 1)
        for line in ("{} lead", "freeze {}", "1 fork {}", "1 set {} 0", "1 wait {}", "1 read 0 {}", "1 read {} 1", "1 get {}",
                     "1 poke {} 0 0", "1 poke 0 {} 0", "1 send stop {}", "1 sendall stop {}", "1 about {}", "1 join {} 1",
                     "1 join 1 {}", "1 seek 0 {}", "1 close {}", "1 pass 0 {}", "1 take {}", "1 write {} a"):
            self.bad(line.format("-1"))
            self.assertEqual(len(answers(line.format("9999999999999"))), 1)
        for line in ("1 fork 0", "1 read 0 0"):
            self.bad(line)

    def test_words(self):
        for line in ("1 send halt 5", "1 send STOP 5", "1 sendall kill 5", "1 open Log", "1 open log1", "1 make l-g a", "1 remove 5",
                     "1 forks 5", "fork 5", "1 freeze 5", "1 bar", "1", "0", "x", "1 1", "freeze", "freeze 5 6", "freeze x",
                     "bar 5", "helpers 1", "thaw 5", "state 1", "Bar", "BAR", "bars", "none", "told 5", "1 fork 5;",
                     "1 fork 5; 1 fork 6", "1 fork, 5", "(1 fork 5)", "1 told"):
            self.bad(line)

    def test_texts_are_any_words(self):
        for text in ("5", "-0", '"', "none", "a;b", "a,b", "(", "~!@#$^&*", "00", "stop", "freeze", "'"):
            self.exact(answers(f"1 make log {text}\n1 open log\n1 read 0 40"), ["told", "told 0", "told " + text])

    def test_empty_lines(self):
        self.bad("", 0)
        self.bad("\n", 0)
        self.bad("\n\n", 0)
        self.bad("1 lead\n", 1)
        self.bad("1 lead\n\n1 lead", 1)
        self.bad("\n1 lead", 0)
        self.bad("1 lead\n1 lead\n", 2)
        self.bad("1 lead\n ", 1)
        self.bad("1 lead\r\n1 lead", 0)

    def test_each_place_of_a_sheet(self):
        lines = ["1 fork 5", "freeze 5", "bar", "helpers", "state", "5 end 0", "1 wait 5", "thaw"]
        for at in range(len(lines) + 1):
            for wrong in ("", "x", "1 fork 0", "1  lead"):
                self.bad("\n".join(lines[:at] + [wrong] + lines[at:]), at)
                self.bad("\n".join(lines[:at] + [wrong] + lines[at:] + ["", "y"]), at)
        self.assertEqual(len(answers("\n".join(lines))), len(lines))

    def test_wrong_lines_are_found_before_anything_is_done(self):
        with unittest.mock.patch.object(Machine, "do") as do:
            self.bad("99 lead\nfreeze 7\nthaw\n1 fork 5\nno line", 4)
        do.assert_not_called()


class Second:
    """A desk that was written a second time, over the functions of the package."""

    def __init__(self):
        self.machine, self.image = Machine(), None

    def words(self, value):
        if isinstance(value, tuple):
            return " ".join(self.words(item) for item in value) if value else "empty"
        if type(value) is int:
            return str(value)
        return {None: "none", True: "yes", False: "no", "": "empty"}.get(value, value)

    def one(self, answer):
        return answer[0] if answer[1:] in ((), (None,)) else f"{answer[0]} {self.words(answer[1])}"

    def call(self, number, call):
        try:
            answer, others = self.machine.do(number, call)
        except NotRunning:
            return "not running"
        return "".join([self.one(answer)] + [f"; {n} {self.one(other)}" for n, other in others])

    def line(self, word, number):
        if word == "freeze":
            self.image = None
            try:
                self.image = freeze(self.machine, number)
            except NoProcess:
                return "no process"
            except Outside:
                return "outside"
            return f"frozen {len(self.image[0])}"
        if word == "state":
            found = state(self.machine)[0]
            return f"{len(found[0])} {len(found[1])}"
        if self.image is None:
            return "no image"
        if word == "bar":
            return (bar(self.image) or ("none",))[0]
        if word == "helpers":
            return "barred" if bar(self.image) else str(sum(map(len, helpers(self.image))))
        try:
            self.machine = play(self.machine, plan(self.image, self.machine))
        except Barred as error:
            return f"barred {error.reason[0]}"
        return "thawed"


class Drawn(DeskCase):
    def test_drawn_sheets(self):
        starts = {}
        for seed in range(120):
            r = random.Random(seed)
            caller = Caller(seed, r.choice([EVEN, LETTERS_MOST, FAMILIES_MOST]), 4)
            second, model, rows = Second(), Model([]), []
            for _ in range(80):
                number = caller.number(model)
                call = caller.call(model, number)
                if r.random() < 0.15:
                    word = r.choice(["freeze", "freeze", "bar", "helpers", "state", "thaw", "thaw"])
                    number = r.choice(model.numbers())
                    rows.append((f"freeze {number}" if word == "freeze" else word, second.line(word, number)))
                    if rows[-1][1] == "thawed":
                        break
                    continue
                rows.append((" ".join(map(str, (number, *call))), second.call(number, call)))
                if model.running(number):
                    model.do(number, call)
            self.sheet(rows)
            for _, answer in rows:
                starts[answer.split(" ")[0]] = starts.get(answer.split(" ")[0], 0) + 1
        for word in ("told", "told;", "refused", "waits", "not", "frozen", "outside", "no", "none", "barred"):
            self.assertIn(word, starts)


if __name__ == "__main__":
    unittest.main()
