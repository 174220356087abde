"""How a call is written: which arguments stand behind each name."""

KINDS = ("stop", "go", "end", "wake")

# "count" is a number from 1, "natural" one from 0, "number" any one;
# "words" is a text that is not empty.
ARGUMENTS = {
    "fork": ("count",),
    "lead": (),
    "adopt": (),
    "join": ("natural", "natural"),
    "end": ("number",),
    "wait": ("natural",),
    "send": ("kind", "natural"),
    "sendall": ("kind", "natural"),
    "about": ("natural",),
    "get": ("natural",),
    "set": ("natural", "number"),
    "make": ("path", "text"),
    "remove": ("path",),
    "open": ("path",),
    "seek": ("natural", "natural"),
    "pipe": (),
    "pair": (),
    "area": (),
    "copy": ("natural", "natural"),
    "close": ("natural",),
    "handles": (),
    "same": ("natural", "natural", "natural"),
    "peek": ("natural", "natural"),
    "poke": ("natural", "natural", "number"),
    "read": ("natural", "count"),
    "write": ("natural", "words"),
    "pass": ("natural", "natural"),
    "take": ("natural",),
}


def is_number(value):
    """Whether a value is a number: Python takes True and False for numbers, too."""
    return isinstance(value, int) and not isinstance(value, bool)


def is_path(text):
    """Whether a string can be the path of a file."""
    return text != "" and all(["a" <= letter <= "z" for letter in text])


def number_fits(shape, value):
    """Whether a number can stand as an argument of this shape."""
    if shape == "count":
        return value >= 1
    if shape == "natural":
        return value >= 0
    return shape == "number"


def text_fits(shape, value):
    """Whether a string can stand as an argument of this shape."""
    if shape == "path":
        return is_path(value)
    if shape == "kind":
        return value in KINDS
    if shape == "words":
        return value != ""
    return shape == "text"


def fits(shape, value):
    """Whether any value can stand as an argument of this shape."""
    if is_number(value):
        return number_fits(shape, value)
    return isinstance(value, str) and text_fits(shape, value)


def tupled(value):
    """The same value with tuples in place of lists, at every depth."""
    if isinstance(value, (list, tuple)):
        return tuple([tupled(item) for item in value])
    return value
