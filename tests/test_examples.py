"""The examples of DOC.md, sections 3 to 12, and of README.md, result for result."""

import doctest
import unittest
from pathlib import Path

from tests.helper import Case
from treethaw import bars, desk, images, judge, machine, moving, parting, plans, texts
from treethaw.bars import bar, helpers
from treethaw.desk import answers
from treethaw.errors import Barred, NotRunning
from treethaw.images import freeze
from treethaw.machine import Machine
from treethaw.moving import Giver, Taker, cut
from treethaw.parting import alike, shows_parting
from treethaw.plans import plan, play

MODULES = (bars, desk, images, judge, machine, moving, parting, plans, texts)
DOCUMENT = Path(__file__).resolve().parent.parent.parent / "shared" / "DOC.md"


class Examples(Case):
    def test_machines(self):
        m = Machine([("log", "abc")])
        self.exact(
            (m.do(1, ("fork", 7)), m.do(7, ("lead",)), m.do(1, ("wait", 7)), m.numbers()),
            ((('told', 7), []), (('told', None), []), (('refused', 'first'), []), [1, 7]))
        with self.assertRaises(NotRunning) as caught:
            m.do(8, ("lead",))
        self.exact(caught.exception.number, 8)

    def test_families(self):
        m = Machine()
        self.exact(
            [m.do(1, ("fork", 5))[0], m.do(5, ("lead",))[0], m.do(5, ("adopt",))[0], m.do(5, ("fork", 6))[0],
             m.do(6, ("fork", 7))[0]],
            [('told', 5), ('told', None), ('told', None), ('told', 6), ('told', 7)])
        self.exact(
            [m.do(6, ("join", 6, 6))[0], m.do(5, ("wait", 0)), m.do(6, ("end", 3)), m.do(5, ("adopt",))[0]],
            [('told', None), (('waits',), []), (('told', None), [(5, ('told', (6, 3)))]), ('refused', 'children')])
        self.exact(
            [m.do(7, ("about", 7))[0], m.do(7, ("about", 6))[0], m.do(5, ("send", "stop", 7))[0],
             m.do(1, ("about", 7))[0]],
            [('told', (5, 5, 'runs', None, None)), ('refused', 'no process'), ('told', None),
             ('told', (5, 5, 'stopped', None, None))])

    def test_things(self):
        m = Machine([("log", "abc")])
        self.exact(
            [m.do(1, ("open", "log"))[0], m.do(1, ("fork", 2))[0], m.do(2, ("read", 0, 2))[0],
             m.do(1, ("read", 0, 9))[0], m.do(1, ("write", 0, "de"))[0]],
            [('told', 0), ('told', 2), ('told', 'ab'), ('told', 'c'), ('told', 2)])
        self.exact(
            [m.do(1, ("pipe",))[0], m.do(1, ("fork", 3))[0], m.do(3, ("read", 1, 5)), m.do(1, ("write", 2, "hello"))],
            [('told', (1, 2)), ('told', 3), (('waits',), []), (('told', 5), [(3, ('told', 'hello'))])])
        self.exact(
            [m.do(3, ("write", 2, "wide text"))[0], m.do(3, ("close", 1))[0], m.do(1, ("close", 1)),
             m.do(3, ("write", 2, "a"))[0]],
            [('refused', 'long'), ('told', None), (('told', None), []), ('refused', 'alone')])

    def test_waiting(self):
        m = Machine()
        self.exact(
            [m.do(1, ("pipe",))[0], m.do(1, ("write", 1, "12345"))[0], m.do(1, ("fork", 2))[0],
             m.do(1, ("fork", 3))[0]],
            [('told', (0, 1)), ('told', 5), ('told', 2), ('told', 3)])
        self.exact(
            [m.do(2, ("write", 1, "abcdef"))[0], m.do(3, ("write", 1, "x"))[0], m.do(1, ("about", 3))[0],
             m.do(1, ("write", 1, "y"))[0]],
            [('waits',), ('waits',), ('told', (1, 1, 'waits', 1, ('write', 1, 'x'))), ('refused', 'first')])
        self.exact(
            [m.do(1, ("send", "stop", 2)), m.do(1, ("read", 0, 3)), m.do(1, ("send", "go", 2))],
            [(('told', None), [(3, ('told', 1))]), (('told', '123'), []), (('told', None), [])])
        self.exact(m.do(1, ("read", 0, 2)), (('told', '45'), [(2, ('told', 6))]))

    def image(self):
        m = Machine([("log", "abc")])
        self.exact(
            [m.do(1, ("fork", 5))[0], m.do(5, ("open", "log"))[0], m.do(5, ("pipe",))[0], m.do(5, ("fork", 6))[0],
             m.do(6, ("close", 2))[0], m.do(6, ("set", 1, 44))[0], m.do(5, ("copy", 0, 4))[0],
             m.do(5, ("read", 4, 1))[0], m.do(6, ("read", 1, 3))[0]],
            [('told', 5), ('told', 0), ('told', (1, 2)), ('told', 6), ('told', None), ('told', None), ('told', 4),
             ('told', 'a'), ('waits',)])
        return freeze(m, 5)

    def test_images(self):
        image = self.image()
        self.exact(
            image[0][0],
            (5, None, 1, 1, False, 'runs', None, None, (0, 0, 0, 0), ((0, 0), (1, 1), (2, 2), (4, 0))))
        self.exact(
            image[0][1], (6, 5, 1, 1, False, 'waits', None, ('read', 1, 3), (0, 44, 0, 0), ((0, 0), (1, 1))))
        self.exact(
            image[1:],
            ((('file', 0, 1), ('reads', 0), ('writes', 0)), (('', (6,), ()),), (), (), (('log', 'abc'),)))

    def test_bars(self):
        image = self.image()
        self.exact((bar(image), helpers(image)), (None, ([], [], [])))
        z = (0, 0, 0, 0)
        two, top = (2, None, 2, 2, False, "runs", None, None, z, ()), (2, None, 2, 2, True, "runs", None, None, z, ())
        self.exact(
            bar(((two, (3, 2, 9, 9, False, "runs", None, None, z, ())), (), (), (), (), ())), ('session', 9, 3))
        three, four = (3, 2, 9, 8, False, "runs", None, None, z, ()), (4, 2, 4, 4, False, "runs", None, None, z, ())
        self.exact(
            helpers(((top, three, four, (5, 2, 4, 4, False, "runs", None, None, z, ())), (), (), (), (), ())),
            ([9], [8], [4]))
        self.exact(
            bar(((top, (3, 2, 5, 5, False, "runs", None, None, z, ()), (5, 3, 5, 5, False, "runs", None, None, z, ())),
                 (), (), (), (), ())),
            ('ring', [3]))

    def test_plans(self):
        image = self.image()
        other = play(Machine([("log", "abc")]), plan(image, Machine([("log", "abc")])))
        self.exact(
            (freeze(other, 5) == image, other.numbers(), other.do(5, ("write", 2, "xyz"))),
            (True, [1, 5, 6], (('told', 3), [(6, ('told', 'xyz'))])))
        with self.assertRaises(Barred) as caught:
            plan(image, Machine())
        self.exact(caught.exception.reason, ('path', 'log'))

    def test_partings(self):
        one, other = Machine(), Machine()
        self.exact(
            (one.do(1, ("set", 3, 1))[0], alike(one, other), shows_parting(one, other, [(1, ("get", 3))]),
             shows_parting(one, other, [])),
            (('told', None), False, True, False))

    def test_moving(self):
        giver, taker = Giver(), Taker()
        self.exact(
            (giver.freeze(cut("abcde", 3)), giver.messages()),
            (1, [('piece', 1, 0, 2, 'abc'), ('piece', 1, 1, 2, 'de')]))
        self.exact(
            (taker.receive(giver.messages()[1]), taker.messages(), taker.receive(giver.messages()[0]), taker.messages(),
             taker.running()),
            (None, [], None, [('whole', 1)], None))
        self.exact(
            (giver.receive(("whole", 1)), giver.phase(), taker.receive(("go", 1)), taker.running(), taker.messages()),
            (None, 'given', None, 'abcde', [('going', 1)]))

    def test_desk(self):
        self.exact(
            answers("1 fork 5\n5 lead\n5 fork 6\n6 end 2\nfreeze 5\n1 send end 5\n1 wait 0\n1 wait 6\nthaw\n"
                    "5 wait 0\nstate"),
            ['told 5', 'told', 'told 6', 'told', 'frozen 2', 'told', 'told 5 -1', 'told 6 2', 'thawed', 'told 6 2', '2 0'])

    @unittest.skipUnless(DOCUMENT.exists(), "the document is not here")
    def test_document(self):
        """Every example of the document itself, one after another, as far as the document is at hand."""
        names = {name: value for module in MODULES for name, value in vars(module).items()}
        lines = DOCUMENT.read_text().splitlines()
        seen = 0
        for line, wanted in zip(lines, [*lines[1:], ""]):
            if not line.startswith("    >>> "):
                continue
            with self.subTest(line):
                if wanted.startswith("    raises "):
                    with self.assertRaises(Exception) as caught:
                        eval(line[8:], names)
                    values = ", ".join(f"{name}={value!r}" for name, value in vars(caught.exception).items())
                    self.assertEqual(f"    raises {type(caught.exception).__name__}({values})", wanted)
                elif wanted.startswith("    ") and not wanted.startswith("    >>> "):
                    self.assertEqual("    " + repr(eval(line[8:], names)), wanted)
                else:
                    exec(line[8:], names)
                seen += 1
        self.assertGreater(seen, 30)

    def test_readme(self):
        readme = Path(__file__).resolve().parent.parent / "README.md"
        result = doctest.testfile(str(readme), module_relative=False)
        self.assertEqual((result.failed, result.attempted), (0, 32))


if __name__ == "__main__":
    unittest.main()
