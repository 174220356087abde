"""Images as texts, each image as one text and each text of at most one image."""

from treethaw.digits import number_in
from treethaw.errors import BadText
from treethaw.images import is_image

LONGEST = 40
DEEPEST = 10
QUOTE = '"'
WORDS = {"none": None, "yes": True, "no": False}


def written(value):
    """A part of an image as a text."""
    if value is None:
        return "none"
    if isinstance(value, bool):
        return "yes" if value else "no"
    if isinstance(value, int):
        return str(value)
    if isinstance(value, str):
        return QUOTE + value.replace(QUOTE, QUOTE + QUOTE) + QUOTE
    return "(" + ", ".join([written(item) for item in value]) + ")"


def string_at(text, at):
    """The string whose first quote stands at a place, and the place behind its last one."""
    parts = []
    begin = at + 1
    end = text.find(QUOTE, begin)
    while end >= 0 and text[end + 1:end + 2] == QUOTE:
        parts.append(text[begin:end + 1])
        begin = end + 2
        end = text.find(QUOTE, begin)
    if end < 0:
        raise BadText()
    parts.append(text[begin:end])
    return ("".join(parts), end + 1)


def plain_at(text, at):
    """The number or the word that stands at a place, and the place behind it."""
    end = at
    while end < len(text) and text[end] not in ",)":
        end += 1
    word = text[at:end]
    if word in WORDS:
        return (WORDS[word], end)
    number = number_in(word, LONGEST)
    if number is None:
        raise BadText()
    return (number, end)


def tuple_at(text, at, depth):
    """The tuple whose first bracket stands at a place within so many others, and the place behind it."""
    if depth == DEEPEST:
        raise BadText()
    if text[at + 1:at + 2] == ")":
        return ((), at + 2)
    items = []
    end = at
    while text[end:end + 1] != ")":
        # The first item stands behind the bracket, each other one behind a comma and a blank.
        sign = ", " if items else "("
        if not text.startswith(sign, end):
            raise BadText()
        item, end = value_at(text, end + len(sign), depth + 1)
        items.append(item)
    return (tuple(items), end + 1)


def value_at(text, at, depth):
    """The value that is written at a place of a text, and the place behind it."""
    if text.startswith("(", at):
        return tuple_at(text, at, depth)
    if text.startswith(QUOTE, at):
        return string_at(text, at)
    return plain_at(text, at)


def image_text(image):
    """The image as a text."""
    return written(image)


def image_in(text):
    """The image that has this text."""
    value, end = value_at(text, 0, 0)
    if end != len(text) or not is_image(value):
        raise BadText()
    return value
