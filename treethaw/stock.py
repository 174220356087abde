"""The things of an image: the first process makes them all, and every process of the tree takes what is its own.

The first process keeps everything until the tree is finished, so that nothing comes or goes meanwhile.
"""

from treethaw.drafts import HELD
from treethaw.world import FIRST


def free_pair(handles):
    """The two least handles that are not among these."""
    free = [at for at in range(len(handles) + 2) if at not in handles]
    return (free[0], free[1])


def free_path(paths):
    """A path that is not among these."""
    path = "a"
    while path in paths:
        path += "a"
    return path


class Stock:
    """Where things are kept while a tree is built: at the same high handles in every process.

    own are the handles that the first process had before, path one that no file has. spots tells the handle of
    each end and side, of those that are not in the image too. every are the high handles, firm those of
    things that handles of the tree lead to, spare all other handles that the root is born with.
    """

    def __init__(self, image, own, paths):
        self.image = image
        self.own = own
        self.path = free_path(paths)
        used = [at for process in image[0] for at, thing in process[9]]
        # New handles of the first process lie below the high ones, two of them at a time.
        self.base = max([0, *own, *used]) + 3
        ends = [(word, at) for at in range(len(image[2])) for word in ("reads", "writes")]
        ends += [("side", at, turn) for at in range(len(image[3])) for turn in (0, 1)]
        parts = [*image[1], *[end for end in ends if end not in image[1]]]
        self.spots = {part: self.base + at for at, part in enumerate(parts)}
        wanted = [self.base + thing for process in image[0] for at, thing in process[9]]
        self.every = [self.base + at for at in range(len(parts))]
        self.firm = [at for at in self.every if at in wanted]
        self.spare = [*own, *[at for at in self.every if at not in wanted]]


def move(draft, low, high):
    """The first process keeps a new thing at a high handle."""
    draft.step(FIRST, ("copy", low, high))
    draft.step(FIRST, ("close", low))


def make_openings(draft, stock):
    """The first process opens all files, those without a path under one that is removed again."""
    low = free_pair(stock.own)[0]
    for at, (path, text) in enumerate(stock.image[5]):
        name = stock.path if path is None else path
        if path is None:
            draft.step(FIRST, ("make", name, text))
        for turn, thing in enumerate(stock.image[1]):
            if thing[:2] == ("file", at):
                draft.step(FIRST, ("open", name))
                if thing[2] > 0:
                    draft.step(FIRST, ("seek", low, thing[2]))
                move(draft, low, stock.base + turn)
        if path is None:
            draft.step(FIRST, ("remove", name))


def make_areas(draft, stock):
    """The first process makes all areas, with their numbers."""
    low = free_pair(stock.own)[0]
    for at, cells in enumerate(stock.image[4]):
        draft.step(FIRST, ("area",))
        for cell, value in enumerate(cells):
            if value != 0:
                draft.step(FIRST, ("poke", low, cell, value))
        move(draft, low, stock.spots[("area", at)])


def make_ends(draft, stock):
    """The first process makes all pipes and pairs, both ends and sides of each."""
    low, other = free_pair(stock.own)
    for at in range(len(stock.image[2])):
        draft.step(FIRST, ("pipe",))
        move(draft, low, stock.spots[("reads", at)])
        move(draft, other, stock.spots[("writes", at)])
    for at in range(len(stock.image[3])):
        draft.step(FIRST, ("pair",))
        move(draft, low, stock.spots[("side", at, 0)])
        move(draft, other, stock.spots[("side", at, 1)])


def make_things(draft, stock):
    """The first process makes all things of the image, before anything is born."""
    make_openings(draft, stock)
    make_areas(draft, stock)
    make_ends(draft, stock)


def close_all(draft, number, handles):
    """A process closes handles of things that the first process keeps."""
    for handle in handles:
        draft.step(number, ("close", handle), uses=[HELD])


def settle_in(draft, stock, row, cells):
    """A process of the image, born with these cells, gets its own cells and handles."""
    for cell, value in enumerate(row[8]):
        if value != cells[cell]:
            draft.step(row[0], ("set", cell, value))
    for handle, thing in row[9]:
        draft.step(row[0], ("copy", stock.base + thing, handle), uses=[HELD])
    close_all(draft, row[0], stock.firm)


def let_go(draft, stock):
    """The first process closes all that it kept, behind everybody else."""
    for handle in stock.every:
        draft.step(FIRST, ("close", handle), owns=[HELD])
