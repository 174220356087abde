"""The errors of the package, each directly under a class of Python's own."""


def copied(value):
    """An equal value with lists of its own, because errors keep what they are given."""
    if isinstance(value, list):
        return [copied(item) for item in value]
    if isinstance(value, tuple):
        return tuple([copied(item) for item in value])
    return value


class BadText(ValueError):
    """A text that is the text of no image."""

    def __init__(self):
        ValueError.__init__(self, "no image has this text")


class BadLine(ValueError):
    """A line that is not written as the desk reads it."""

    def __init__(self, number):
        ValueError.__init__(self, f"line {number} is not written as it must be")
        self.number = number


class NoOrder(ValueError):
    """A list that is no order of the plan."""

    def __init__(self):
        ValueError.__init__(self, "this is no order of the plan")


class Outside(ValueError):
    """A tree that shares something with other processes."""

    def __init__(self, what):
        ValueError.__init__(self, f"the tree shares {what} with other processes")
        self.what = copied(what)


class NoProcess(LookupError):
    """A number that is no process whose tree can be frozen."""

    def __init__(self, number):
        LookupError.__init__(self, f"there is no process {number} to freeze")
        self.number = number


class BadStep(LookupError):
    """A step of a plan that cannot be made."""

    def __init__(self, index):
        LookupError.__init__(self, f"step {index} cannot be made")
        self.index = index


class NotRunning(RuntimeError):
    """A number of no process, or of one that makes no calls now."""

    def __init__(self, number):
        RuntimeError.__init__(self, f"process {number} does not run")
        self.number = number


class Barred(RuntimeError):
    """An image that cannot be built here, and the reason."""

    def __init__(self, reason):
        RuntimeError.__init__(self, f"the image cannot be built: {reason}")
        self.reason = copied(reason)


class NotNow(RuntimeError):
    """A giver that is in another phase than the call needs."""

    def __init__(self, word):
        RuntimeError.__init__(self, f"the giver is in the phase {word}")
        self.word = word
