"""The families of an image: who is above whom, what tops there are, and which helpers a thaw needs."""

from treethaw.world import FIRST


class Kin:
    """The families of an image, the first process of a machine being above its root.

    rows are the processes as the image tells them; the others tell one part of these each, of
    the first process too.
    """

    def __init__(self, image):
        processes = image[0]
        self.rows = {row[0]: row for row in processes}
        self.members = [row[0] for row in processes]
        self.parents = {row[0]: FIRST if row[1] is None else row[1] for row in processes}
        self.sessions = {row[0]: row[2] for row in processes}
        self.groups = {row[0]: row[3] for row in processes}
        self.adopting = {row[0]: row[4] for row in processes}
        self.sessions[FIRST] = FIRST
        self.groups[FIRST] = FIRST
        self.adopting[FIRST] = True
        self.root = [row[0] for row in processes if row[1] is None][0]


def sessions_of(kin):
    """The ascending list of the sessions of the image."""
    return sorted(set([kin.sessions[at] for at in kin.members]))


def groups_of(kin):
    """The ascending list of the groups of the image."""
    return sorted(set([kin.groups[at] for at in kin.members]))


def is_led(kin, session):
    """Whether a process of the image has this number."""
    return session in kin.rows


def is_lost(kin, session):
    """Whether a session is neither led nor that of the first process."""
    return session != FIRST and not is_led(kin, session)


def is_top(kin, number):
    """Whether a process is of another session than its parent, or the root."""
    return number == kin.root or kin.sessions[kin.parents[number]] != kin.sessions[number]


def tops(kin, session):
    """The ascending list of the tops of a session."""
    return [at for at in kin.members if kin.sessions[at] == session and is_top(kin, at)]


def other_tops(kin, session):
    """The ascending list of the tops of a session but for its leader."""
    return [at for at in tops(kin, session) if at != session]


def all_above(kin, number):
    """The parent of a process, the parent's parent and so on, up to the first process."""
    above = [kin.parents[number]]
    while above[-1] != FIRST:
        above.append(kin.parents[above[-1]])
    return above


def adopter_over(kin, number):
    """The nearest process above this one that adopts."""
    return [at for at in all_above(kin, number) if kin.adopting[at]][0]


def below(kin, number):
    """The ascending list of the children of a process."""
    return [at for at in kin.members if kin.parents[at] == number]


def has_ended(kin, number):
    """Whether a process of the image has ended."""
    return kin.rows[number][5] == "ended"


def lost_sessions(kin):
    """The ascending list of the sessions that need a helper of their number."""
    return [session for session in sessions_of(kin) if is_lost(kin, session)]


def helper_groups(kin):
    """The ascending list of the groups that need a helper of their number."""
    lost = lost_sessions(kin)
    return [group for group in groups_of(kin) if group != FIRST and group not in kin.rows and group not in lost]


def helper_groups_in(kin, session):
    """Those of these groups that processes of one session have."""
    own = [kin.groups[at] for at in kin.members if kin.sessions[at] == session]
    return [group for group in helper_groups(kin) if group in own]


def can_bear(kin, number, leader):
    """Whether other tops of the leader's session can be born by this process and be adopted above the leader."""
    if kin.sessions[number] != leader or not has_ended(kin, number):
        return False
    if number == leader:
        return True
    above = all_above(kin, number)
    if leader not in above:
        return False
    between = above[:above.index(leader) + 1]
    return all([kin.sessions[at] == leader and not kin.adopting[at] for at in between])


def bearer(kin, leader):
    """The least process of the image that can bear the other tops of this session, or None."""
    return min([at for at in kin.members if can_bear(kin, at, leader)], default=None)


def further_sessions(kin):
    """The ascending list of the led sessions that need a helper only to bear their other tops."""
    led = [session for session in sessions_of(kin) if is_led(kin, session) and other_tops(kin, session)]
    return [session for session in led if not helper_groups_in(kin, session) and bearer(kin, session) is None]
