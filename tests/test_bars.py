"""[10] bar, shows_bar and helpers; (b) of [1] as far as families go."""

import itertools
import random
import unittest

from tests.drawing import draw_ends, draw_family, family_image, free_family
from tests.helper import Case, image, listed, row
from treethaw.bars import bar, helpers, shows_bar

TWO = row(2, session=2)
TOP = row(2, session=2, adopts=True)


class Reasons(Case):
    def bars(self, told, *reasons):
        """The first of these is the bar, and all of them are shown."""
        self.exact(bar(told), reasons[0] if reasons else None)
        for reason in reasons:
            self.assertIs(shows_bar(told, reason), True, reason)

    def shows_not(self, told, *things):
        for thing in things:
            with self.subTest(thing):
                self.assertIs(shows_bar(told, thing), False)


class Sessions(Reasons):
    def test_none(self):
        for told in (image(row(2)), image(TWO), image(row(2, session=9)), image(TWO, row(3, 2, 2), row(4, 3, 4))):
            self.bars(told)

    def test_leader_of_another_session(self):
        told = image(TWO, row(3, 2, 2), row(4, 2, 3))
        self.bars(told, ("session", 3, 3), ("session", 3, 4))
        self.shows_not(told, ("session", 3, 2), ("session", 2, 2), ("session", 2, 3), ("session", 4, 4))

    def test_leader_of_another_group(self):
        self.bars(image(row(2, session=2, group=3), row(3, 2, 2)), ("session", 2, 2))
        self.bars(image(TWO, row(3, 2, 3, 2)), ("session", 3, 3), ("group", 2))

    def test_numbers_that_are_no_sessions(self):
        told = image(TWO, row(3, 2, 2))
        self.bars(told)
        self.shows_not(told, ("session", 3, 3), ("session", 3, 2), ("session", 9, 3), ("session", 1, 2))

    def test_other_top(self):
        self.bars(image(TOP, row(3, 2, 3), row(4, 2, 3)))
        told = image(TWO, row(3, 2, 3), row(4, 2, 3))
        self.bars(told, ("session", 3, 4))
        self.shows_not(told, ("session", 3, 3), ("session", 2, 4))

    def test_other_top_below_another_adopter(self):
        below = row(5, 2, 2, adopts=True)
        self.bars(image(TOP, row(3, 2, 3), row(4, 5, 3), below), ("session", 3, 4))
        self.bars(image(TOP, row(3, 5, 3), row(4, 5, 3), below))
        self.bars(image(TOP, row(3, 5, 3), row(4, 2, 3), below), ("session", 3, 4))
        self.bars(image(TOP, row(3, 5, 3), row(4, 2, 3), row(5, 2, 2)))

    def test_adopting_leader_is_not_above_itself(self):
        self.bars(image(TOP, row(3, 2, 3, adopts=True), row(4, 2, 3)))

    def test_outer(self):
        self.bars(image(row(2), row(3, 2)))
        self.bars(image(TWO, row(3, 2, 1)), ("session", 1, 3))
        self.bars(image(TOP, row(3, 2, 1), row(4, 2, 1)), ("session", 1, 3), ("session", 1, 4))
        told = image(row(2, adopts=True), row(3, 2, 3), row(4, 3, 1), row(5, 4))
        self.bars(told, ("session", 1, 4))
        self.shows_not(told, ("session", 1, 2), ("session", 1, 5))

    def test_lost(self):
        self.bars(image(TOP, row(3, 2, 9), row(4, 2, 9), row(5, 3, 9)))
        told = image(TWO, row(3, 2, 9), row(4, 2, 9))
        self.bars(told, ("session", 9, 3), ("session", 9, 4))
        self.bars(image(TOP, row(3, 2, 2, adopts=True), row(4, 2, 9), row(5, 3, 9), row(6, 3, 9)),
                  ("session", 9, 5), ("session", 9, 6))
        told = image(TOP, row(3, 2, 2), row(4, 3, 9), row(5, 2, 9))
        self.bars(told, ("session", 9, 4), ("session", 9, 5))

    def test_lost_session_of_the_root(self):
        self.bars(image(row(5, session=9), row(6, 5, 9)))
        root = row(5, session=9, adopts=True)
        self.bars(image(row(3, 5, 3), row(4, 3, 9), root), ("session", 9, 4), ("session", 9, 5))
        self.bars(image(row(3, 5, 3, adopts=True), row(4, 3, 9), root), ("session", 9, 5))
        self.bars(image(row(3, session=9, adopts=True), row(4, 3, 4), row(5, 4, 9)), ("session", 9, 5))

    def test_root_in_a_session_below(self):
        self.bars(image(row(2, session=3), row(3, 2, 3)), ("ring", [2]))
        self.bars(image(row(2, session=3, adopts=True), row(3, 2, 3)), ("session", 3, 2), ("ring", [2]))

    def test_order(self):
        told = image(TWO, row(3, 2, 3, 2), row(4, 2, 1), row(5, 2, 9), row(6, 2, 9))
        self.bars(told, ("session", 1, 4), ("session", 3, 3), ("session", 9, 5), ("session", 9, 6), ("group", 2))
        told = image(TWO, row(3, 2, 9), row(4, 2, 8))
        self.bars(told, ("session", 8, 4), ("session", 9, 3))


class Groups(Reasons):
    def test_two_sessions(self):
        self.bars(image(TWO, row(3, 2, 2, 50), row(4, 2, 4), row(5, 4, 4, 50)), ("group", 50))
        self.bars(image(TWO, row(3, 2, 2, 50), row(4, 2, 4), row(5, 4, 4, 51)))

    def test_number_of_another_session(self):
        self.bars(image(TWO, row(3, 2, 2), row(4, 2, 4), row(5, 4, 4, 3)), ("group", 3))
        self.bars(image(TWO, row(3, 2, 2, 6), row(4, 2, 4), row(6, 4, 4)), ("group", 6))
        self.bars(image(TWO, row(3, 2, 2), row(4, 2, 2, 3)))
        self.bars(image(TWO, row(3, 2, 2, code=1), row(4, 2, 2, 3)))

    def test_one(self):
        self.bars(image(row(2), row(3, 2, 1, 1)))
        self.bars(image(TWO, row(3, 2, 2, 1)), ("group", 1))

    def test_sessions(self):
        self.bars(image(TOP, row(3, 2, 9), row(4, 2, 2, 9)), ("group", 9))
        self.bars(image(TOP, row(3, 2, 9, 40), row(4, 2, 2, 9)), ("group", 9))
        self.bars(image(TOP, row(3, 2, 3), row(4, 2, 2, 3)), ("group", 3))
        self.bars(image(TOP, row(3, 2, 9), row(4, 2, 9, 9)))

    def test_order(self):
        told = image(TWO, row(3, 2, 2, 60), row(4, 2, 4), row(5, 4, 4, 60), row(6, 4, 4, 50), row(7, 2, 2, 50),
                     row(8, 2, 2, 1))
        self.bars(told, ("group", 1), ("group", 50), ("group", 60))
        self.shows_not(told, ("group", 2), ("group", 4), ("group", 3), ("group", 77))

    def test_behind_sessions_before_rings(self):
        told = image(TOP, row(3, 2, 5), row(5, 3, 5), row(6, 2, 2, 1))
        self.bars(told, ("group", 1), ("ring", [3]))
        told = image(TOP, row(3, 2, 5), row(5, 3, 5), row(6, 2, 2, 1), row(7, 2, 1))
        self.bars(told, ("session", 1, 7), ("group", 1), ("ring", [3]))


class Rings(Reasons):
    def ring(self, *pairs):
        """A top of a session for each pair (x, y), of which the leader is below y."""
        rows = [TOP]
        for at, (x, y) in enumerate(pairs):
            rows += [row(x, 2, 100 + at), row(100 + at, y, 100 + at)]
        return image(*sorted(rows))

    def test_one(self):
        self.bars(self.ring((3, 3)), ("ring", [3]))
        self.bars(image(TOP, row(3, 2, 7), row(4, 3, 4), row(7, 4, 7)), ("ring", [3]))

    def test_two(self):
        self.bars(self.ring((3, 4), (4, 3)), ("ring", [3, 4]))
        self.bars(self.ring((9, 4), (4, 9)), ("ring", [4, 9]))

    def test_three(self):
        self.bars(self.ring((3, 4), (4, 5), (5, 3)), ("ring", [3, 4, 5]))
        self.bars(self.ring((3, 5), (5, 4), (4, 3)), ("ring", [3, 5, 4]))

    def test_chain_is_no_ring(self):
        chain = image(TOP, row(3, 2, 100), row(4, 2, 101), row(5, 2, 5), row(100, 4, 100), row(101, 5, 101))
        self.bars(chain)
        self.shows_not(chain, ("ring", [3]), ("ring", [3, 4]), ("ring", [3, 4, 5]), ("ring", []))

    def test_several(self):
        told = self.ring((9, 10), (10, 9), (6, 6), (4, 8), (8, 4))
        self.bars(told, ("ring", [4, 8]), ("ring", [6]), ("ring", [9, 10]))
        self.shows_not(told, ("ring", [8, 4]), ("ring", [10, 9]), ("ring", [4]), ("ring", [4, 8, 6]),
                       ("ring", [4, 8, 4, 8]), ("ring", [6, 6]))

    def test_outside_of_the_ring(self):
        told = self.ring((3, 4), (4, 5), (5, 4))
        self.bars(told, ("ring", [4, 5]))
        self.shows_not(told, ("ring", [3, 4, 5]), ("ring", [3]), ("ring", [3, 4]))

    def test_parent_must_be_above(self):
        told = image(TOP, row(3, 2, 5), row(4, 2, 2, adopts=True), row(5, 4, 5))
        self.bars(told, ("session", 5, 3))
        told = image(TOP, row(3, 4, 5), row(4, 2, 2), row(5, 2, 5))
        self.bars(told, ("session", 5, 3))
        self.shows_not(told, ("ring", [3]), ("ring", [4]))


class Shown(Reasons):
    def test_values_of_other_kinds(self):
        told = image(TOP, row(3, 2, 5), row(5, 3, 5), row(6, 2, 2, 1), row(7, 2, 1))
        self.bars(told, ("session", 1, 7), ("group", 1), ("ring", [3]))
        self.shows_not(
            told, None, True, 0, "", "ring", (), [], ("session",), ("group",), ("ring",), ("session", 1),
            ("session", 1, 7, 7), ("group", 1, 1), ("ring", [3], [3]), ["session", 1, 7], ["group", 1], ["ring", [3]],
            ("session", True, 7), ("group", True), ("ring", (3,)), ("ring", [3, 3]), ("ring", []), ("ring", 3),
            ("ring", None), ("ring", "3"), ("ring", [[3]]), ("ring", [(3,)]), ("ring", [True]), ("ring", [None]),
            ("session", "1", 7), ("session", [1], 7), ("session", 1, None), ("group", None), ("group", [1]),
            ("Group", 1), (None, 1), (1, 1), ([], 1), ("session", 1, (7,)), ("session", -1, 7), ("number", 2),
            ("session", 1, "7"), ("path", "log"), ("group", 1, 7), ("ring", 1, 7), ("sessions", 1, 7),
            ("session", 1, 8), ("session", 8, 7))
        self.assertIs(shows_bar(told, thing=("ring", [3])), True)

    def test_true_of_one(self):
        told = image(row(5, session=5, group=1))
        self.bars(told, ("session", 5, 5), ("group", 1))
        self.shows_not(told, ("group", True), ("session", 5, True))


class Helpers(Case):
    def needs(self, told, sessions, groups, more):
        self.assertIsNone(bar(told))
        self.exact(helpers(told), (sessions, groups, more))

    def test_none(self):
        self.needs(image(row(2)), [], [], [])
        self.needs(image(TWO, row(3, 2, 2, 3), row(4, 3, 4), row(5, 4, 4, 5)), [], [], [])

    def test_lost_sessions(self):
        self.needs(image(row(2, session=9, group=9)), [9], [], [])
        self.needs(image(TOP, row(3, 2, 50), row(4, 2, 40), row(5, 2, 50)), [40, 50], [], [])

    def test_groups(self):
        self.needs(image(row(2, group=9)), [], [9], [])
        self.needs(image(row(2), row(3, 2, 1, 8), row(4, 2, 1, 8), row(5, 2, 1, 7), row(6, 2, 1, 1)), [], [7, 8], [])
        self.needs(image(TOP, row(3, 2, 50, 60), row(4, 2, 50, 50)), [50], [60], [])
        self.needs(image(TWO, row(3, 2, 2, 4), row(4, 2, 2, 3)), [], [], [])

    def test_groups_of_ended_ones(self):
        self.needs(image(TWO, row(3, 2, 2, 9, code=0)), [], [9], [])

    def test_more(self):
        self.needs(image(TOP, row(3, 2, 3), row(4, 2, 3)), [], [], [3])
        self.needs(image(TOP, row(3, 2, 3), row(4, 2, 3), row(5, 2, 3)), [], [], [3])
        self.needs(image(TOP, row(3, 2, 3, adopts=True), row(4, 2, 3)), [], [], [3])
        self.needs(image(TOP, row(3, 2, 3), row(4, 2, 3), row(5, 2, 5), row(6, 2, 5)), [], [], [3, 5])
        self.needs(image(TOP, row(3, 2, 3), row(4, 3, 3), row(5, 2, 2)), [], [], [])

    def test_group_instead(self):
        self.needs(image(TOP, row(3, 2, 3), row(4, 2, 3, 9)), [], [9], [])
        self.needs(image(TOP, row(3, 2, 3), row(4, 2, 3), row(5, 3, 3, 9)), [], [9], [])
        self.needs(image(TOP, row(3, 2, 3, adopts=True), row(4, 2, 3), row(5, 3, 3, 9)), [], [9], [])
        self.needs(image(TOP, row(3, 2, 3), row(4, 2, 3), row(5, 2, 2, 9)), [], [9], [3])

    def test_leader_as_bearer(self):
        self.needs(image(TOP, row(3, 2, 3, code=0), row(4, 2, 3)), [], [], [])

    def test_bearers_below(self):
        for adopts in (False, True):
            more = [3] if adopts else []
            leader = row(3, 2, 3, adopts=adopts)
            self.needs(image(TOP, leader, row(4, 2, 3), row(5, 3, 3, code=0)), [], [], more)
            self.needs(image(TOP, row(3, 2, 3), row(4, 2, 3), row(5, 3, 3, adopts=adopts), row(6, 5, 3, code=0)),
                       [], [], more)
            self.needs(image(TOP, leader, row(4, 2, 3), row(5, 3, 3), row(6, 5, 3), row(7, 6, 3, code=0)), [], [], more)

    def test_no_bearers(self):
        self.needs(image(TOP, row(3, 2, 3), row(4, 2, 3), row(5, 3, 3)), [], [], [3])
        self.needs(image(TOP, row(3, 2, 3), row(4, 2, 3, code=0)), [], [], [3])
        self.needs(image(TOP, row(3, 2, 3), row(4, 2, 3), row(5, 4, 3, code=0)), [], [], [3])
        self.needs(image(TOP, row(3, 2, 3), row(4, 2, 3), row(5, 3, 5, code=0)), [], [], [3])
        self.needs(image(TOP, row(3, 2, 3), row(4, 2, 3), row(5, 2, 2, code=0)), [], [], [3])

    def test_adopters_between_matter_above_the_bearer_only(self):
        self.needs(image(TOP, row(3, 2, 3), row(4, 2, 3), row(5, 3, 3, code=0), row(6, 3, 3, adopts=True)), [], [], [])

    def test_new_lists(self):
        told = image(TOP, row(3, 2, 3), row(4, 2, 3))
        for part in helpers(told):
            part.append(77)
        self.needs(told, [], [], [3])
        ring = image(TOP, row(3, 2, 5), row(5, 3, 5))
        bar(ring)[1].append(77)
        self.exact(bar(ring), ("ring", [3]))


def all_reasons(told):
    """All reasons of each kind in order, read off the document once more."""
    rows = {p[0]: p for p in told[0]}
    parent = {n: p[1] or 1 for n, p in rows.items()}
    session = {n: p[2] for n, p in rows.items()}
    root = next(n for n in rows if rows[n][1] is None)

    def chain(n):
        return [] if n == 1 else [parent[n]] + chain(parent[n])

    def adopts(n):
        return n == 1 or rows[n][4]

    found = []
    for s in sorted(set(session.values())):
        top = [n for n in sorted(rows) if session[n] == s and (n == root or session[parent[n]] != s)]
        for x in sorted(rows):
            if s in rows:
                wrong = x == s and (session[x] != s or rows[x][3] != s)
                wrong = wrong or x in top and x != s and parent[x] != next(n for n in chain(s) if adopts(n))
            elif s == 1:
                wrong = x in top and x != root
            else:
                wrong = x in top and (parent[x] != parent[top[0]] or not adopts(parent[x]))
            if wrong:
                found.append(("session", s, x))
    for g in sorted({p[3] for p in rows.values()}):
        have = {p[2] for p in rows.values() if p[3] == g}
        if len(have) > 1 or g in rows and {session[g]} != have or (g == 1 or g in session.values()) and {g} != have:
            found.append(("group", g))
    needs = {(x, c) for x in rows for s in rows if session[x] == s and x != s and
             (x == root or session[parent[x]] != s) and parent[x] in chain(s)
             for c in [s] + chain(s) if c != 1 and parent[c] == parent[x]}
    for many in (1, 2, 3, 4):
        for ring in itertools.permutations(sorted({x for x, _ in needs}), many):
            if ring[0] == min(ring) and all((x, y) in needs for x, y in zip(ring, ring[1:] + ring[:1])):
                found.append(("ring", list(ring)))
    return sorted(found, key=lambda reason: (["session", "group", "ring"].index(reason[0]), reason[1:]))


def wild_family(r, many):
    """A family with sessions and groups of any kind."""
    rows = draw_family(r, many)
    for p in rows.values():
        if r.random() < 0.4:
            p["session"] = r.choice([1, 77, *rows])
        if r.random() < 0.4:
            p["group"] = r.choice([1, 77, 78, *rows])
    draw_ends(r, rows)
    return rows


class SecondReading(Case):
    def test_drawn_families(self):
        seen = {}
        for seed in range(1500):
            r = random.Random(seed)
            rows = (wild_family if seed % 2 else draw_family)(r, r.choice([1, 2, 3, 4, 5, 7]))
            told = family_image(rows)
            wanted = all_reasons(told)
            self.exact(bar(told), wanted[0] if wanted else None)
            self.exact(bar(listed(told)), bar(told))
            numbers = [1, 77, 78, *rows]
            for thing in [("session", s, x) for s in numbers for x in numbers] + [("group", g) for g in numbers] + [
                    ("ring", list(ring)) for many in (1, 2, 3) for ring in itertools.permutations(sorted(rows), many)]:
                self.assertIs(shows_bar(told, thing), thing in wanted, (told, thing))
            for word in {reason[0] for reason in wanted[:1]} or {"none"}:
                seen[word] = seen.get(word, 0) + 1
        self.assertTrue(all(seen.get(word, 0) > 5 for word in ("session", "group", "none")), seen)

    def test_drawn_rings(self):
        for seed in range(300):
            r = random.Random(seed)
            tops = r.sample(range(3, 30), 4)
            rows = [TOP]
            for at, x in enumerate(tops):
                if r.random() < 0.8:
                    rows += [row(x, 2, 100 + at), row(100 + at, r.choice(tops), 100 + at)]
                else:
                    rows.append(row(x, 2, 2))
            told = image(*sorted(rows))
            wanted = all_reasons(told)
            self.exact(bar(told), wanted[0] if wanted else None)
            for many in (1, 2, 3, 4):
                for ring in itertools.permutations(tops, many):
                    self.assertIs(shows_bar(told, ("ring", list(ring))), ("ring", list(ring)) in wanted)

    def test_helpers(self):
        for seed in range(500):
            r = random.Random(seed)
            told = family_image(free_family(r, r.choice([2, 3, 4, 6, 8])))
            rows = {p[0]: p for p in told[0]}
            sessions = sorted({p[2] for p in told[0]} - {1} - set(rows))
            groups = sorted({p[3] for p in told[0]} - {1} - set(rows) - set(sessions))
            more = []
            for s in sorted(rows):
                own = [p for p in told[0] if p[2] == s]
                others = [p for p in own if p[0] != s and (p[1] is None or rows[p[1]][2] != s)]
                if others and not any(p[3] in groups for p in own) and not any(self.bears(rows, p, s) for p in own):
                    more.append(s)
            self.exact(helpers(told), (sessions, groups, more))
            self.exact(helpers(listed(told)), (sessions, groups, more))

    def bears(self, rows, p, s):
        if p[5] != "ended":
            return False
        while p[0] != s:
            p = rows.get(p[1])
            if p is None or p[2] != s or p[4]:
                return False
        return True


def family_calls(state, numbers):
    """All that calls can make of a family: (state, forks), a state being a tuple of
    (number, parent, session, group, adopts, ended) of all processes but the first one."""
    p = {row[0]: row for row in state}
    taken = {1}.union(*[{n, s, g} for n, _, s, g, _, _ in state])
    for me in [1, *[n for n in p if not p[n][5]]]:
        _, parent, s, g, adopts, _ = p.get(me, (1, 0, 1, 1, True, False))
        below = [n for n in p if p[n][1] == me]
        for new in numbers - taken:
            yield {**p, new: (new, me, s, g, False, False)}, 1
        for n in below:
            if p[n][5]:
                yield {k: v for k, v in p.items() if k != n}, 0
        if me == 1:
            continue
        if not below:
            if not any(row[3] == me for row in state):
                yield {**p, me: (me, parent, me, me, adopts, False)}, 0
            yield {**p, me: (me, parent, s, g, True, False)}, 0
        if s != me:
            for to in {x for row in state if row[2] == s for x in (row[0], row[3])} | ({1} if s == 1 else set()):
                yield {**p, me: (me, parent, s, to, adopts, False)}, 0
        heir = parent
        while heir != 1 and not p[heir][4]:
            heir = p[heir][1]
        yield {**p, **{n: (n, heir, *p[n][2:]) for n in below}, me: (me, parent, s, g, False, True)}, 0


class EveryWay(Case):
    """All families that two or three forks can make, found by trying all calls."""

    def reachable(self, numbers, most):
        forks = {(): 0}
        level = [()]
        for cost in range(most + 1):
            later = []
            while level:
                state = level.pop()
                if forks[state] == cost:
                    for rows, more in family_calls(state, numbers):
                        new = tuple(rows[n] for n in sorted(rows))
                        if cost + more <= most and forks.get(new, most + 1) > cost + more:
                            forks[new] = cost + more
                            (later if more else level).append(new)
            level = later
        return forks

    def told(self, state):
        return image(*[row(n, None if parent == 1 else parent, s, g, adopts, code=0 if ended else None)
                       for n, parent, s, g, adopts, ended in state])

    def test_what_can_be_built_is_not_barred(self):
        for numbers, most in [({2, 3, 4}, 3), ({5, 3}, 4)]:
            many = 0
            for state, forks in self.reachable(numbers, most).items():
                roots = [n for n, parent, _, _, _, ended in state if parent == 1]
                if len(roots) == 1 and not next(row for row in state if row[0] == roots[0])[5]:
                    told = self.told(state)
                    self.assertIsNone(bar(told), told)
                    self.assertEqual(sum(map(len, helpers(told))), forks - len(state), told)
                    many += 1
            self.assertGreater(many, 100)

    def test_what_cannot_be_built_is_barred(self):
        forks = self.reachable({2, 3, 4}, 3)
        values = range(1, 5)
        for root, child in itertools.permutations((2, 3, 4), 2):
            for s, t, g, h in itertools.product(values, repeat=4):
                for one, (other, ended) in itertools.product((False, True), [(0, 0), (1, 0), (0, 1)]):
                    state = tuple(sorted([(root, 1, s, g, one, False), (child, root, t, h, bool(other), bool(ended))]))
                    told = self.told(state)
                    if bar(told) is not None:
                        self.assertNotIn(state, forks)
                    elif 2 + sum(map(len, helpers(told))) <= 3:
                        self.assertIn(state, forks)


if __name__ == "__main__":
    unittest.main()
