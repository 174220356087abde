"""How the processes of an image are born, lead, adopt and join their groups, with the helpers that this takes."""

from treethaw.drafts import HELD
from treethaw.kin import (
    bearer, below, further_sessions, helper_groups_in, is_led, lost_sessions, other_tops, sessions_of, tops,
)
from treethaw.stock import close_all
from treethaw.world import FIRST


class Nursery:
    """A tree while it is born.

    spare are the handles that the root closes first. now tells the present groups. bearers tells who bears the
    other tops of each led session that has some: a helper, or a process of the image. kept are
    the helpers that last until all groups are joined, each with its parent.
    """

    def __init__(self, kin, draft, spare, free):
        self.kin = kin
        self.draft = draft
        self.spare = spare
        self.now = {FIRST: FIRST}
        self.kept = []
        further = further_sessions(kin)
        self.bearers = {session: number for session, number in zip(further, free)}
        for session in sessions_of(kin):
            if is_led(kin, session) and session not in further and other_tops(kin, session):
                groups = helper_groups_in(kin, session)
                self.bearers[session] = groups[0] if groups else bearer(kin, session)


def fork(nursery, parent, new):
    """A process is born with the present group of its parent."""
    nursery.draft.step(parent, ("fork", new), owns=[("process", new)])
    nursery.now[new] = nursery.now[parent]


def lead(nursery, number):
    """A process that was just born begins its session."""
    nursery.draft.step(number, ("lead",))
    nursery.now[number] = number


def end_helper(nursery, number, parent, born):
    """A helper ends and is waited for; those that it has borne are adopted."""
    owns = [("process", number), *[("parent", child) for child in born]]
    nursery.draft.step(number, ("end", 0), owns=owns, uses=[HELD])
    nursery.draft.step(parent, ("wait", number), owns=[("process", number)])


def bear_by_helper(nursery, leader):
    """A helper bears the other tops of a session and is gone before the leader has to adopt."""
    kin = nursery.kin
    helper = nursery.bearers[leader]
    born = other_tops(kin, leader)
    fork(nursery, leader, helper)
    if helper in helper_groups_in(kin, leader):
        # Those that it bears keep its group for others that join it later.
        nursery.draft.step(helper, ("join", helper, helper))
        nursery.now[helper] = helper
    bear(nursery, helper, born)
    end_helper(nursery, helper, leader, born)


def keep_groups(nursery, session, head):
    """The head of a session, if this is one, forks helpers for its groups, which last until all have joined."""
    for group in helper_groups_in(nursery.kin, session):
        if nursery.bearers.get(session) != group:
            fork(nursery, head, group)
            nursery.kept.append((group, head))


def begin_session(nursery, leader):
    """A process that was just born leads its session, and has the other tops borne if none of the image can."""
    lead(nursery, leader)
    if leader in nursery.bearers and nursery.bearers[leader] not in nursery.kin.rows:
        bear_by_helper(nursery, leader)


def bear_lost(nursery, session, parent):
    """A helper leads a session that has lost its leader, and bears the tops."""
    fork(nursery, parent, session)
    nursery.kept.append((session, parent))
    lead(nursery, session)
    keep_groups(nursery, session, session)
    bear(nursery, session, tops(nursery.kin, session))


def bear_below(nursery, number):
    """A process bears those of its children that are born by it, and helpers for the others."""
    kin = nursery.kin
    children = below(kin, number)
    bear(nursery, number, [at for at in children if kin.sessions[at] in (at, kin.sessions[number])])
    for session in lost_sessions(kin):
        if tops(kin, session)[0] in children:
            bear_lost(nursery, session, number)
    for session in sessions_of(kin):
        if nursery.bearers.get(session) == number:
            bear(nursery, number, other_tops(kin, session))


def bear(nursery, parent, born):
    """A process bears others, and each of them all that is born below it."""
    kin = nursery.kin
    for number in born:
        fork(nursery, parent, number)
        if number == kin.root:
            close_all(nursery.draft, number, nursery.spare)
        if kin.sessions[number] == number:
            begin_session(nursery, number)
        if kin.adopting[number]:
            nursery.draft.step(number, ("adopt",))
        keep_groups(nursery, number, number)
        bear_below(nursery, number)


def join_groups(nursery):
    """All processes join their groups, those first whose group is only kept by others that will leave it."""
    kin = nursery.kin
    for session in sessions_of(kin):
        kept = nursery.bearers.get(session)
        own = [at for at in kin.members if kin.sessions[at] == session]
        first = [at for at in own if kin.groups[at] == kept]
        owns = [("groups", session)] if kept in helper_groups_in(kin, session) else []
        for number in [*first, *[at for at in own if at not in first]]:
            group = kin.groups[number]
            if nursery.now[number] != group:
                uses = [("process", group)]
                nursery.draft.step(number, ("join", number, group), owns=owns, uses=uses)


def bear_all(nursery):
    """The whole tree is born, and all helpers are gone."""
    keep_groups(nursery, FIRST, FIRST)
    bear_below(nursery, FIRST)
    join_groups(nursery)
    # Later helpers may be children of earlier ones. Whoever these have borne is adopted by the one that waits.
    for number, parent in reversed(nursery.kept):
        end_helper(nursery, number, parent, [])
