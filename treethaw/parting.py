"""Whether two machines are alike, and calls that part those that are not."""

from treethaw.errors import NotRunning
from treethaw.images import state
from treethaw.machine import is_step
from treethaw.pictures import paths_of
from treethaw.scripts import family_rows, thing_row

# These calls change nothing, so that later ones are answered in the same way without them.
LOOKS = ("about", "get", "handles", "same", "peek")


def alike(one, other):
    """Whether two machines have equal states."""
    return state(one) == state(other)


def outcome(machine, number, call):
    """What a call brings about, or None if the process does not run."""
    try:
        return machine.do(number, call)
    except NotRunning:
        return None


def outcomes(machine, calls):
    """What calls bring about, made one after another on a twin of the machine."""
    twin = machine.twin()
    return [outcome(twin, number, call) for number, call in calls]


def first_parting(one, other, calls):
    """The list that parts two machines at the first of these calls that has other results, or None."""
    ones = outcomes(one, calls)
    others = outcomes(other, calls)
    for at in range(len(calls)):
        if ones[at] != others[at]:
            return [*[(number, call) for number, call in calls[:at] if call[0] not in LOOKS], calls[at]]
    return None


def parting(one, other):
    """A list of calls of which the last one alone has other results on the other machine, or None if there is none."""
    if alike(one, other):
        return None
    for calls in family_rows(one, sorted(set([*one.numbers(), *other.numbers()]))):
        found = first_parting(one, other, calls)
        if found is not None:
            return found
    paths = [path for path, text in [*paths_of(one.world), *paths_of(other.world)]]
    return first_parting(one, other, thing_row(one, sorted(set(paths))))


def shows_parting(one, other, thing):
    """Whether any value is a list of calls that parts two machines at its last call."""
    if not isinstance(thing, list) or not thing or not all([is_step(step) for step in thing]):
        return False
    ones = outcomes(one, thing)
    others = outcomes(other, thing)
    return None not in ones[:-1] and ones[:-1] == others[:-1] and ones[-1] != others[-1]
