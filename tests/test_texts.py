"""[14] image_text and image_in."""

import ast
import random
import re
import unittest

from tests.drawing import Drawn, draw_family, family_image
from tests.helper import ZEROS, Case, image, listed, row
from tests.growing import Grown, ROOT
from tests.test_model import EVEN, LETTERS_MOST
from treethaw.errors import BadText
from treethaw.images import freeze, is_image
from treethaw.texts import image_in, image_text

TOKEN = re.compile(r'\(|\)|, |-?[0-9]+|none|yes|no|"(?:[^"]|"")*"')
PYTHON = {"(": "[", ")": "]", ", ": ",", "none": "None", "yes": "True", "no": "False"}
WORDS = {None: "none", True: "yes", False: "no"}
ONE = image(row(5))
ONE_TEXT = '(((5, none, 1, 1, no, "runs", none, none, (0, 0, 0, 0), ())), (), (), (), (), ())'
FULL = image(row(5, adopts=True, word="stopped", call=("write", 3, 'say ""'), cells=(-1, 10 ** 12, -10 ** 12, 7),
                 handles=((0, 0), (3, 1), (10 ** 12, 2))), row(9, 5, 9, code=-44),
             things=(("file", 0, 2), ("writes", 0), ("side", 0, 0)), pipes=(("", (), (5,)),),
             pairs=(((('"', 'a "b"', 2, "()"), (), ()), ((), (), ())),),
             files=(("log", 'x, y"'),))


def tupled(value):
    return tuple(tupled(item) for item in value) if isinstance(value, (list, tuple)) else value


def second_text(value):
    """The text of a value, put together piece by piece."""
    if isinstance(value, str):
        return '"' + "".join('""' if letter == '"' else letter for letter in value) + '"'
    if isinstance(value, tuple):
        text = "("
        for at, item in enumerate(value):
            text += (", " if at else "") + second_text(item)
        return text + ")"
    return f"{value}" if type(value) is int else WORDS[value]


def second_reading(text):
    """The image with this text, or None: read generously by Python itself, then compared with its own text."""
    tokens = TOKEN.findall(text)
    if "".join(tokens) != text or any(len(token.lstrip("-")) > 40 for token in tokens if token[-1].isdigit()):
        return None
    source = []
    for token in tokens:
        source.append(repr(token[1:-1].replace('""', '"')) if token[0] == '"' else PYTHON.get(token, token))
    try:
        value = tupled(ast.literal_eval("".join(source)))
    except (SyntaxError, ValueError, RecursionError, MemoryError):
        return None
    return value if second_text(value) == text and is_image(value) else None


class TextCase(Case):
    def both_ways(self, told):
        text = image_text(told)
        self.assertIs(type(text), str)
        self.assertEqual(text, second_text(told))
        self.exact(image_in(text), told)
        self.assertEqual(image_text(listed(told)), text)
        return text

    def none(self, text):
        with self.assertRaises(BadText):
            image_in(text)


class Written(TextCase):
    def test_small(self):
        self.exact(image_text(ONE), ONE_TEXT)
        self.both_ways(ONE)

    def test_every_kind_of_value(self):
        self.assertTrue(is_image(FULL))
        text = self.both_ways(FULL)
        for words in ('"stopped", none, ("write", 3, "say """"")', "(-1, 1000000000000, -1000000000000, 7)",
                      "((0, 0), (3, 1), (1000000000000, 2))", '("""", "a ""b""", 2, "()")', '(("log", "x, y"""))',
                      "(9, 5, 9, 9, no,", '"ended", -44, none, (), ())', "(5, none, 1, 1, yes,", '(("", (), (5)))'):
            self.assertIn(words, text)

    def test_one_item_and_none(self):
        told = image(row(5, handles=((0, 0),)), things=(("area", 0),), areas=(ZEROS,))
        self.assertTrue(self.both_ways(told).endswith('((0, 0)))), (("area", 0)), (), (), ((0, 0, 0, 0)), ())'))

    def test_by_name(self):
        self.exact(image_in(text=image_text(image=ONE)), ONE)

    def test_nothing_is_shared_or_changed(self):
        told = listed(FULL)
        text = image_text(told)
        self.assertEqual(told, listed(FULL))
        told[0][0][8][0] = 99
        self.exact(image_in(text), FULL)

    def test_drawn_images(self):
        r = random.Random(6)
        for _ in range(150):
            told = Drawn(r, r.randint(1, 12), r.choice([0, 4, 12, 30]), [("log", "abc"), ("b", '"')]).image()
            self.exact(second_reading(self.both_ways(told)), told)

    def test_barred_images(self):
        r = random.Random(7)
        for _ in range(100):
            self.both_ways(family_image(draw_family(r, r.randint(1, 12))))


class Grew(Grown, TextCase):
    def test_grown_images(self):
        for seed in range(20):
            for weights in (EVEN, LETTERS_MOST):
                machine = self.grow(seed, weights, 6, 60)[1]
                self.both_ways(freeze(machine, ROOT))


class Numbers(TextCase):
    def cell(self, digits):
        return ONE_TEXT.replace("(0, 0, 0, 0)", f"(0, {digits}, 0, 0)")

    def test_digits(self):
        for digits in ("1", "10", "-1", "-10", "1" * 13, "9" * 40, "-" + "9" * 40, "1" + "0" * 39):
            self.exact(image_in(self.cell(digits)), image(row(5, cells=(0, int(digits), 0, 0))))

    def test_no_numbers(self):
        for digits in ("00", "01", "-0", "-00", "-01", "--1", "+1", "1-", "-", "", " ", "1 ", " 1", "1.0", "1e3", "0x1", "1_0",
                       "9" * 41, "-" + "9" * 41, "1" + "0" * 40, "0" * 41, "9" * 5000, "1a", "a", "1\n", "\n1", "one"):
            self.none(self.cell(digits))

    def test_kinds_of_words(self):
        for word in ("none", "yes", "no", "None", "True", "NO", "Yes", "null", '"0"', "()", "(0)"):
            self.none(self.cell(word))
        for word in ("None", "NONE", "null", "0", '"none"', "()", "no", "nonee", "non"):
            self.none(ONE_TEXT.replace("5, none", f"5, {word}"))
        for word in ("False", "No", "NO", "0", "none", '"no"', "noo"):
            self.none(ONE_TEXT.replace("1, no,", f"1, {word},"))
        self.exact(image_in(ONE_TEXT.replace("1, no,", "1, yes,")), image(row(5, adopts=True)))


class NoTexts(TextCase):
    def test_short(self):
        for text in ("", " ", "\n", "(", ")", "()", '"', '""', '"""', "0", "none", "yes", "no", ",", ", ", "(,)", "(, )", "((",
                     "(()", "())", "(0", '("', '("a', '("a"', '(""', '("")', "(0)", "(0, 0)", "-", "(-)", "((), (), (), (), (), ())"):
            self.none(text)

    def test_something_before_or_behind(self):
        for more in (" ", "\n", ")", "(", ",", ", ", "0", "()", '"', "none", ", ()"):
            self.none(ONE_TEXT + more)
            self.none(more + ONE_TEXT)
        self.none(ONE_TEXT * 2)
        self.none("(" + ONE_TEXT + ")")

    def test_blanks_and_commas(self):
        for at, letter in enumerate(ONE_TEXT):
            for new in ("", letter * 2, letter + " ", " " + letter, letter + "\n", letter + ",", letter + ", "):
                self.same_as_second(ONE_TEXT[:at] + new + ONE_TEXT[at + 1:])
        self.none(ONE_TEXT.replace(", ", ","))
        self.none(ONE_TEXT.replace(", ", ",\n"))
        self.none(ONE_TEXT.replace(", ())", ", (),)"))
        self.none(ONE_TEXT.replace("(0, 0, 0, 0)", "(0, 0, 0, 0, )"))
        self.none(ONE_TEXT.replace("(0, 0, 0, 0)", "[0, 0, 0, 0]"))
        self.none(ONE_TEXT.replace('"runs"', "'runs'"))
        self.none(ONE_TEXT.replace('"runs"', "runs"))
        self.none(ONE_TEXT.replace('"runs"', '"RUNS"'))

    def same_as_second(self, text):
        """image_in agrees with the second reading; returns whether there is an image."""
        wanted = second_reading(text)
        if wanted is None:
            self.none(text)
        else:
            self.exact(image_in(text), wanted)
        return wanted is not None

    def test_changed_texts(self):
        r = random.Random(9)
        seen = [0, 0]
        texts = [image_text(Drawn(r, r.randint(1, 3), r.choice([0, 4, 8]), [("log", 'a"')]).image()) for _ in range(25)]
        for text in [*texts, image_text(FULL)]:
            for _ in range(150):
                at, to = r.randrange(len(text)), r.randrange(len(text))
                new = r.choice(["", r.choice(' ,()"-0123456789anoyes\n'), text[to], text[to:to + 2], text[at] * 2])
                seen[self.same_as_second(text[:at] + new + text[at + r.choice([0, 1, 1, 2]):])] += 1
        self.assertGreater(min(seen), 100)

    def test_deep(self):
        for depth in (2, 9, 10, 11, 12, 5000, 200000):
            self.none("(" * depth + ")" * depth)
            self.none("(" * depth)
            self.none("(" * depth + "0" + ")" * depth)
            self.none(ONE_TEXT.replace("(0, 0, 0, 0)", "(" * depth + ")" * depth))

    def test_values_that_are_no_images(self):
        for told in (image(row(1)), image(row(200)), image(row(5, 6)), image(row(5, word="waits")), image(row(5, session=0)),
                     image(row(5), row(5)), image(row(6), row(5, 6)), image(row(5, code=3)), image(row(5), areas=(ZEROS,)),
                     image(row(5, handles=((0, 0),))), ONE[:5], (*ONE, ()), ONE[0], 5, None, "x", True):
            self.assertFalse(is_image(told))
            self.none(second_text(told))

    def test_line_feeds(self):
        for at in range(len(ONE_TEXT) + 1):
            self.none(ONE_TEXT[:at] + "\n" + ONE_TEXT[at:])

    def test_long_strings(self):
        told = image(row(5, handles=((0, 0),)), things=(("file", 0, 0),), files=((None, '"' * 20 + "a" * 20000),))
        self.both_ways(told)
        self.none(image_text(told)[:-4])


if __name__ == "__main__":
    unittest.main()
