"""Images, machines and orders that are drawn at random, for tests that try many of them.

A Drawn tree is made of plain objects without any numbering; image() numbers it by first meeting, written from
the document and not taken from the package.
"""

from treethaw.bars import bar

MOST, ROOM, LETTERS, CELLS = 199, 8, 4, 4


class Thing:
    """kind is file, reads, writes, side or area; of is its file, pipe, pair or area."""

    def __init__(self, kind, of, turn=0):
        self.kind, self.of, self.turn = kind, of, turn


class Part:
    """A pipe (text, rows), a pair (letters, rows), an area (cells) or a file (path, text)."""

    def __init__(self, **values):
        self.__dict__.update(values)


def draw_text(random, least, most):
    return "".join(random.choice("abc XYZ\"~,()") for _ in range(random.randint(least, most)))


def draw_numbers(random, many):
    """Different numbers of processes, near to one another or far apart."""
    return random.sample(range(2, random.choice([many + 3, 40, 200])), many)


def adopter(rows, number):
    """The nearest process above one that adopts, None for the first process of the machine."""
    above = rows[number]["parent"]
    while above is not None and not rows[above]["adopts"]:
        above = rows[above]["parent"]
    return above


def draw_session(random, rows, number, parent, lost):
    """A session for a new process: mostly one that does not bar the image."""
    above = 1 if parent is None else rows[parent]["session"]
    led = [n for n in rows if rows[n]["session"] == n]
    # Those led sessions, below or above, of which it could be another top.
    others = [n for n in led if parent is not None and adopter(rows, n) == parent and n != above]
    sessions = [above] * 4 + [number] * 4 + others * 5
    if parent is None or rows[parent]["adopts"]:
        sessions += [n for n in lost if all(row["parent"] == parent for row in rows.values() if row["session"] == n)]
    if random.random() < 0.03:
        sessions = led + lost + [1]
    return random.choice(sessions)


def draw_family(random, many):
    """Processes as dicts, by number: a tree with sessions and groups that may be barred."""
    numbers = draw_numbers(random, many)
    lost = random.sample([at for at in range(2, 60) if at not in numbers], 3)
    rows = {}
    for at, number in enumerate(numbers):
        parent = None if at == 0 else random.choice([random.choice(numbers[:at]), numbers[at - 1], numbers[0]])
        rows[number] = dict(number=number, parent=parent, session=0, group=0, adopts=random.random() < 0.4,
                            word="runs", code=None, call=None, handles={},
                            cells=[random.choice([0, 0, 1, -5, 10 ** 12]) for _ in range(CELLS)])
        rows[number]["session"] = draw_session(random, rows, number, parent, lost)
    spread = random.random()
    for row in rows.values():
        session = row["group"] = row["session"]
        if session != row["number"] and random.random() < spread:
            own = [n for n in rows if rows[n]["session"] == session]
            row["group"] = random.choice(own + [session] + [100 + session % 50, 150 + session % 49])
    return rows


def draw_ends(random, rows):
    """Some that have no children end."""
    parents = {row["parent"] for row in rows.values()}
    for row in rows.values():
        if row["number"] not in parents and row["parent"] is not None and random.random() < 0.35:
            row.update(word="ended", code=random.choice([0, 7, -1]), adopts=False, cells=[])


def family_image(rows):
    """The image of a family that has no things."""
    processes = []
    for n in sorted(rows):
        values = dict(rows[n], cells=tuple(rows[n]["cells"]), handles=())
        processes.append(tuple(values[key] for key in KEYS))
    return tuple(processes), (), (), (), (), ()


KEYS = "number parent session group adopts word code call cells handles".split()


def free_family(random, many):
    """A family that nothing bars."""
    while True:
        rows = draw_family(random, many)
        draw_ends(random, rows)
        if bar(family_image(rows)) is None:
            return rows


def draw_things(random, most, paths):
    """Things that may belong to a tree; of pipes and pairs always both ends."""
    things = []
    files = [Part(path=path, text=text) for path, text in paths]
    files += [Part(path=None, text=draw_text(random, 0, 12)) for _ in range(2)]
    while len(things) < most:
        kind = random.choice(["pipe", "pair", "pair", "area", "file"])
        if kind == "pipe":
            pipe = Part(text="", takes=[], puts=[])
            things += [Thing("reads", pipe), Thing("writes", pipe)]
        elif kind == "pair":
            pair = Part(sides=[Part(letters=[], takes=[], puts=[]) for _ in range(2)])
            things += [Thing("side", pair, 0), Thing("side", pair, 1)]
        elif kind == "area":
            things.append(Thing("area", Part(cells=[random.choice([0, 3, -10 ** 12]) for _ in range(CELLS)])))
        else:
            file = random.choice(files)
            things.append(Thing("file", file, random.randint(0, len(file.text))))
    return things


class Drawn:
    """A tree with things, of which those are in the image that are reached."""

    def __init__(self, random, many, most, paths):
        self.random = random
        self.rows = free_family(random, many)
        self.things = draw_things(random, most, paths)
        for row in self.alive():
            for _ in range(random.choice([0, 1, 2, 4]) if self.things else 0):
                row["handles"][random.choice([0, 1, 2, 3, 9, 10 ** 12])] = random.choice(self.things)
        self.fill()
        self.wait()
        self.mend()

    def alive(self):
        return [row for row in self.rows.values() if row["word"] != "ended"]

    def fill(self):
        for thing in self.things:
            if thing.kind == "reads" and self.random.random() < 0.6:
                thing.of.text = draw_text(self.random, 0, ROOM)
            if thing.kind == "side":
                letters = thing.of.sides[thing.turn].letters
                while len(letters) < LETTERS and self.random.random() < 0.6:
                    other = self.random.choice(self.things)
                    letters.append(self.random.choice([draw_text(self.random, 1, ROOM), other]))

    def call_through(self, row, handle):
        """A call that may wait, and the row in which it does, or None."""
        random, thing = self.random, row["handles"][handle]
        write, read = ("write", handle, draw_text(random, 1, ROOM)), ("read", handle, random.randint(1, 10))
        if thing.kind == "reads":
            return read, thing.of.takes
        if thing.kind == "writes":
            return write, thing.of.puts
        if thing.kind == "side":
            side = thing.of.sides[thing.turn]
            if random.random() < 0.5:
                return random.choice([read, ("take", handle)]), side.takes
            return random.choice([write, ("pass", handle, random.choice(list(row["handles"])))]), side.puts
        return None

    def wait(self):
        """Some wait, stopped or not, in rows of any order."""
        for row in self.alive():
            row["word"] = self.random.choice(["runs", "waits", "waits", "stopped", "stopped"])
            below = [n for n in self.rows if self.rows[n]["parent"] == row["number"]]
            found = [self.call_through(row, handle) for handle in row["handles"]] + [None]
            if below:
                found.append((("wait", self.random.choice([0] + below)), []))
            found = self.random.choice(found)
            if row["word"] in ("waits", "stopped") and found:
                row["call"] = found[0]
                found[1].insert(self.random.randint(0, len(found[1])), row["number"])
            elif row["word"] == "waits":
                row["word"] = "runs"

    def reached(self):
        """The things in the order of meeting."""
        found = []
        for n in sorted(self.rows):
            for handle in sorted(self.rows[n]["handles"]):
                if self.rows[n]["handles"][handle] not in found:
                    found.append(self.rows[n]["handles"][handle])
        for thing in found:
            for letter in (thing.of.sides[thing.turn].letters if thing.kind == "side" else []):
                if not isinstance(letter, str) and letter not in found:
                    found.append(letter)
        return found

    def mend(self):
        """Empties what is not held, and stops all those of a row that could go on."""
        held = self.reached()
        ends = {(thing.of, thing.kind, thing.turn) for thing in held}
        for thing in self.things:
            if thing.kind == "reads" and thing not in held:
                thing.of.text = ""
            if thing.kind == "side" and thing not in held:
                thing.of.sides[thing.turn].letters = []
        for thing in self.things:
            if thing.kind == "reads":
                self.stop_row(thing.of.takes, lambda call: thing.of.text == "" and (thing.of, "writes", 0) in ends)
                self.stop_row(thing.of.puts, lambda call: len(call[2]) + len(thing.of.text) > ROOM
                              and (thing.of, "reads", 0) in ends)
            if thing.kind == "side":
                side, other = thing.of.sides[thing.turn], thing.of.sides[1 - thing.turn]
                there = (thing.of, "side", 1 - thing.turn) in ends
                self.stop_row(side.takes, lambda call: not side.letters and there)
                self.stop_row(side.puts, lambda call: len(other.letters) == LETTERS and there)
        for row in self.alive():
            if row["call"] and row["call"][0] == "wait":
                done = [n for n in self.rows if self.rows[n]["parent"] == row["number"]
                        and self.rows[n]["word"] == "ended" and row["call"][1] in (0, n)]
                self.stop_row([row["number"]], lambda call: not done)

    def stop_row(self, numbers, stands):
        heads = [n for n in numbers if self.rows[n]["word"] == "waits"]
        if heads and not stands(self.rows[heads[0]]["call"]):
            for n in numbers:
                self.rows[n]["word"] = "stopped"

    def image(self):
        things = self.reached()
        parts = {kind: [] for kind in ("pipe", "side", "area", "file")}
        fronts = {}
        for thing in things:
            kind = "pipe" if thing.kind in ("reads", "writes") else thing.kind
            if thing.of not in parts[kind]:
                parts[kind].append(thing.of)
            if kind == "side":
                fronts.setdefault(thing.of, thing.turn)

        def told(thing):
            kind = "pipe" if thing.kind in ("reads", "writes") else thing.kind
            rest = {"file": (thing.turn,), "side": (thing.turn ^ fronts.get(thing.of, 0),)}.get(thing.kind, ())
            return (thing.kind, parts[kind].index(thing.of), *rest)

        def side(part):
            letters = [letter if isinstance(letter, str) else things.index(letter) for letter in part.letters]
            return tuple(letters), tuple(part.takes), tuple(part.puts)

        def process(row):
            values = dict(row, cells=tuple(row["cells"]),
                          handles=tuple((at, things.index(row["handles"][at])) for at in sorted(row["handles"])))
            return tuple(values[key] for key in KEYS)

        return (tuple(process(self.rows[n]) for n in sorted(self.rows)), tuple(told(thing) for thing in things),
                tuple((pipe.text, tuple(pipe.takes), tuple(pipe.puts)) for pipe in parts["pipe"]),
                tuple((side(pair.sides[fronts[pair]]), side(pair.sides[1 - fronts[pair]])) for pair in parts["side"]),
                tuple(tuple(area.cells) for area in parts["area"]),
                tuple((file.path, file.text) for file in parts["file"]))


def draw_order(random, plan, weights):
    """An order of a plan: of the steps that may be next, those of heavy processes come first mostly."""
    steps, pairs = plan
    before = {at: [] for at in range(len(steps))}
    after = {at: [] for at in range(len(steps))}
    last = {}
    for at, (number, _) in enumerate(steps):
        if number in last:
            before[at].append(last[number])
            after[last[number]].append(at)
        last[number] = at
    for early, late in pairs:
        before[late].append(early)
        after[early].append(late)
    missing = {at: len(before[at]) for at in before}
    ready = [at for at in missing if missing[at] == 0]
    order = []
    while ready:
        at = random.choices(ready, [weights.get(steps[at][0], 1.0) for at in ready])[0]
        ready.remove(at)
        order.append(at)
        for late in after[at]:
            missing[late] -= 1
            if missing[late] == 0:
                ready.append(late)
    return order


def orders(random, plan, many):
    """Drawn orders, then for each process one in which it goes as early as may be, and one as late."""
    found = [draw_order(random, plan, {}) for _ in range(many)]
    for number in sorted({number for number, _ in plan[0]}):
        found.append(draw_order(random, plan, {number: 1e9}))
        found.append(draw_order(random, plan, {number: 1e-9}))
    return found
