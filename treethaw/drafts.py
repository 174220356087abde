"""Drafts of plans: steps in one order that works, and which of them must stay in this order.

Every step names marks: what it owns, it may change or depend on alone; what it uses, it only depends on,
so that steps which use the same mark may change places. Two steps of different processes of which
neither owns what the other one names do not see each other. So every order that keeps the steps of
each process, and the links, leads to the same machine by the same answers.

The marks are: ("process", number), whether a process is there and runs; ("parent", number), whose child
it is; ("groups", session), which groups a session has; ("waits", number), whether a process that waits for
children is stopped; ("pipe", at) and ("letters", at, side), what is in a row and who waits there; HELD, that the
first process holds everything.
"""

HELD = ("held",)


class Draft:
    """Steps, and links (i, j) of steps of which the first one must be made before the second one.

    owners tells for each mark the last step that owned it, users the last step of each process that
    used it since.
    """

    def __init__(self):
        self.steps = []
        self.links = {}
        self.owners = {}
        self.users = {}

    def link(self, early, late):
        """Keeps two steps in order, unless their process does so by itself."""
        if self.steps[early][0] != self.steps[late][0]:
            self.links[(early, late)] = True

    def step(self, number, call, owns=(), uses=()):
        """A process makes a call, behind all steps that it may depend on."""
        at = len(self.steps)
        self.steps.append((number, call))
        for mark in (("process", number), *uses):
            users = self.users.setdefault(mark, {})
            # An earlier step of this process that used it is behind its owner already.
            if mark in self.owners and number not in users:
                self.link(self.owners[mark], at)
            users[number] = at
        for mark in owns:
            if mark in self.owners:
                self.link(self.owners[mark], at)
            for early in self.users.get(mark, {}).values():
                self.link(early, at)
            self.owners[mark] = at
            self.users[mark] = {}
