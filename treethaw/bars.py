"""What bars an image from being built by plain calls, and how many helpers building it takes."""

from treethaw.kin import (
    Kin, adopter_over, all_above, further_sessions, groups_of, helper_groups, is_led, lost_sessions, other_tops,
    sessions_of, tops,
)
from treethaw.shapes import is_number
from treethaw.world import FIRST


def bars_session(kin, session, number):
    """Whether this process of the image is a reason why its session cannot be built."""
    if is_led(kin, session):
        if number == session:
            return (kin.sessions[number], kin.groups[number]) != (session, session)
        return number in tops(kin, session) and kin.parents[number] != adopter_over(kin, session)
    found = tops(kin, session)
    if number not in found:
        return False
    if session == FIRST:
        return number != kin.root
    parent = kin.parents[number]
    return parent != kin.parents[found[0]] or not kin.adopting[parent]


def bars_group(kin, group):
    """Whether this group of the image is a reason why it cannot be built."""
    owners = sorted(set([kin.sessions[at] for at in kin.members if kin.groups[at] == group]))
    if len(owners) > 1:
        return True
    if group in kin.rows and kin.sessions[group] != owners[0]:
        return True
    return (group == FIRST or group in sessions_of(kin)) and group != owners[0]


def needs(kin):
    """For each process that must be born below another child of its parent, this child."""
    found = {}
    for session in sessions_of(kin):
        if is_led(kin, session):
            line = [session, *all_above(kin, session)]
            for number in other_tops(kin, session):
                parent = kin.parents[number]
                if parent in line[1:]:
                    found[number] = line[line.index(parent) - 1]
    return found


def ring_from(needed, number):
    """The ring that begins with this process if it is the least one in it, or None."""
    row = [number]
    while row[-1] in needed and needed[row[-1]] not in row:
        row.append(needed[row[-1]])
    closes = row[-1] in needed and needed[row[-1]] == number
    return row if closes and min(row) == number else None


def first_session(kin):
    """The first reason of the first kind, or None."""
    for session in sessions_of(kin):
        for number in kin.members:
            if bars_session(kin, session, number):
                return ("session", session, number)
    return None


def first_group(kin):
    """The first reason of the second kind, or None."""
    for group in groups_of(kin):
        if bars_group(kin, group):
            return ("group", group)
    return None


def first_ring(kin):
    """The first reason of the third kind, or None."""
    needed = needs(kin)
    for number in kin.members:
        row = ring_from(needed, number)
        if row is not None:
            return ("ring", row)
    return None


def bar(image):
    """The first reason why a tree cannot be built by plain calls, or None."""
    kin = Kin(image)
    reason = first_session(kin)
    if reason is None:
        reason = first_group(kin)
    return first_ring(kin) if reason is None else reason


def shows_ring(kin, row):
    """Whether any value is the list of a ring."""
    if not isinstance(row, list) or not row or not all([is_number(number) for number in row]):
        return False
    return ring_from(needs(kin), row[0]) == row


def shows_bar(image, thing):
    """Whether any value is a reason that is true of the image, the first one or not."""
    kin = Kin(image)
    if not isinstance(thing, tuple):
        return False
    if len(thing) == 2 and thing[0] == "ring":
        return shows_ring(kin, thing[1])
    if not all([is_number(number) for number in thing[1:]]):
        return False
    if len(thing) == 2 and thing[0] == "group":
        return thing[1] in groups_of(kin) and bars_group(kin, thing[1])
    if len(thing) == 3 and thing[0] == "session":
        return thing[1] in sessions_of(kin) and bars_session(kin, thing[1], thing[2])
    return False


def helpers(image):
    """The sessions, the groups and the further sessions that need one helper each."""
    kin = Kin(image)
    return (lost_sessions(kin), helper_groups(kin), further_sessions(kin))
