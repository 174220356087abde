"""The examples of DOC.md, sections 3 to 6, and of README.md, result for result."""

import doctest
import unittest
from pathlib import Path

from tests.helper import Case
from treethaw.errors import NotRunning
from treethaw.machine import Machine


class Examples(Case):
    def test_machines(self):
        m = Machine([("log", "abc")])
        self.exact(
            (m.do(1, ("fork", 7)), m.do(7, ("lead",)), m.do(1, ("wait", 7)), m.numbers()),
            ((('told', 7), []), (('told', None), []), (('refused', 'first'), []), [1, 7]))
        with self.assertRaises(NotRunning) as caught:
            m.do(8, ("lead",))
        self.exact(caught.exception.number, 8)

    def test_families(self):
        m = Machine()
        self.exact(
            [m.do(1, ("fork", 5))[0], m.do(5, ("lead",))[0], m.do(5, ("adopt",))[0], m.do(5, ("fork", 6))[0],
             m.do(6, ("fork", 7))[0]],
            [('told', 5), ('told', None), ('told', None), ('told', 6), ('told', 7)])
        self.exact(
            [m.do(6, ("join", 6, 6))[0], m.do(5, ("wait", 0)), m.do(6, ("end", 3)), m.do(5, ("adopt",))[0]],
            [('told', None), (('waits',), []), (('told', None), [(5, ('told', (6, 3)))]), ('refused', 'children')])
        self.exact(
            [m.do(7, ("about", 7))[0], m.do(7, ("about", 6))[0], m.do(5, ("send", "stop", 7))[0],
             m.do(1, ("about", 7))[0]],
            [('told', (5, 5, 'runs', None, None)), ('refused', 'no process'), ('told', None),
             ('told', (5, 5, 'stopped', None, None))])

    def test_things(self):
        m = Machine([("log", "abc")])
        self.exact(
            [m.do(1, ("open", "log"))[0], m.do(1, ("fork", 2))[0], m.do(2, ("read", 0, 2))[0],
             m.do(1, ("read", 0, 9))[0], m.do(1, ("write", 0, "de"))[0]],
            [('told', 0), ('told', 2), ('told', 'ab'), ('told', 'c'), ('told', 2)])
        self.exact(
            [m.do(1, ("pipe",))[0], m.do(1, ("fork", 3))[0], m.do(3, ("read", 1, 5)), m.do(1, ("write", 2, "hello"))],
            [('told', (1, 2)), ('told', 3), (('waits',), []), (('told', 5), [(3, ('told', 'hello'))])])
        self.exact(
            [m.do(3, ("write", 2, "wide text"))[0], m.do(3, ("close", 1))[0], m.do(1, ("close", 1)),
             m.do(3, ("write", 2, "a"))[0]],
            [('refused', 'long'), ('told', None), (('told', None), []), ('refused', 'alone')])

    def test_waiting(self):
        m = Machine()
        self.exact(
            [m.do(1, ("pipe",))[0], m.do(1, ("write", 1, "12345"))[0], m.do(1, ("fork", 2))[0],
             m.do(1, ("fork", 3))[0]],
            [('told', (0, 1)), ('told', 5), ('told', 2), ('told', 3)])
        self.exact(
            [m.do(2, ("write", 1, "abcdef"))[0], m.do(3, ("write", 1, "x"))[0], m.do(1, ("about", 3))[0],
             m.do(1, ("write", 1, "y"))[0]],
            [('waits',), ('waits',), ('told', (1, 1, 'waits', 1, ('write', 1, 'x'))), ('refused', 'first')])
        self.exact(
            [m.do(1, ("send", "stop", 2)), m.do(1, ("read", 0, 3)), m.do(1, ("send", "go", 2))],
            [(('told', None), [(3, ('told', 1))]), (('told', '123'), []), (('told', None), [])])
        self.exact(m.do(1, ("read", 0, 2)), (('told', '45'), [(2, ('told', 6))]))

    def test_readme(self):
        readme = Path(__file__).resolve().parent.parent / "README.md"
        result = doctest.testfile(str(readme), module_relative=False)
        self.assertEqual((result.failed, result.attempted), (0, 8))


if __name__ == "__main__":
    unittest.main()
