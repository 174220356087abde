"""Moving a tree as pieces of a text, over a link that may lose, double and exchange messages."""

from treethaw.errors import NotNow


def cut(text, size):
    """The list of the pieces of a text, each of this size but the last one."""
    if text == "":
        return [""]
    return [text[at:at + size] for at in range(0, len(text), size)]


class Giver:
    """The side that has the tree at first: it gives it up only when it knows that all of it has come over."""

    def __init__(self):
        self.word = "runs"
        self.turn = 0
        self.pieces = []
        self.known = False

    def phase(self):
        """Whether the tree runs here, is frozen, or is given for good."""
        return self.word

    def freeze(self, pieces):
        """Begins the next try with these pieces, and returns its number."""
        if self.word != "runs":
            raise NotNow(self.word)
        self.word = "frozen"
        self.turn += 1
        self.pieces = list(pieces)
        return self.turn

    def resume(self):
        """The tree runs here again, and the try is over."""
        if self.word != "frozen":
            raise NotNow(self.word)
        self.word = "runs"

    def receive(self, message):
        """Hears what the taker sends of the present try."""
        if message[0] == "whole" and message[1] == self.turn and self.word == "frozen":
            self.word = "given"
        elif message[0] == "going" and message[1] == self.turn and self.word == "given":
            self.known = True

    def messages(self):
        """What it sends, again and again."""
        if self.word == "frozen":
            many = len(self.pieces)
            return [("piece", self.turn, at, many, text) for at, text in enumerate(self.pieces)]
        if self.word == "given" and not self.known:
            return [("go", self.turn)]
        return []


class Taker:
    """The side that gets the tree: it runs it only when it has all of it and the giver has given it up."""

    def __init__(self):
        self.turn = None
        self.many = 0
        self.pieces = {}
        self.begun = False

    def receive(self, message):
        """Keeps a piece, or lets the tree run."""
        if self.begun:
            return
        if message[0] == "piece":
            keep_piece(self, message)
        elif message[0] == "go" and message[1] == self.turn and is_whole(self):
            self.begun = True

    def messages(self):
        """What it sends, again and again."""
        if self.begun:
            return [("going", self.turn)]
        if is_whole(self):
            return [("whole", self.turn)]
        return []

    def running(self):
        """The text of the tree that runs, or None."""
        if not self.begun:
            return None
        return "".join([self.pieces[at] for at in sorted(self.pieces)])


def keep_piece(taker, message):
    """Keeps a piece of the latest try that was heard of, once."""
    word, turn, index, many, text = message
    if taker.turn is None or turn > taker.turn:
        taker.turn = turn
        taker.many = many
        taker.pieces = {}
    if turn == taker.turn and index not in taker.pieces:
        taker.pieces[index] = text


def is_whole(taker):
    """Whether all pieces of the present try are there."""
    return taker.turn is not None and len(taker.pieces) >= taker.many
