"""Nets that several tests use, and slow ways to what the program tells.

The slow ways follow the words of the document, and call nothing of the program.
"""

from functools import cache
from itertools import combinations, permutations, product

LONE = (1, (), (0,))
BARE = (4, (), (0, 2, 3))
CHAIN = (3, ((0, 1), (1, 2)), (0, 2))
RING = (3, ((0, 1), (0, 2), (1, 2)), (0, 1, 2))
# Ties by number: 0: 0-1, 1: 0-2, 2: 1-2, 3: 1-3, 4: 2-3.
KITE = (4, ((0, 1), (0, 2), (1, 2), (1, 3), (2, 3)), (0, 3))
ONE_RIM = (4, ((0, 1), (0, 2), (1, 2), (1, 3), (2, 3)), (2,))
# Two rings with a tie between, and a tie to a knot off the rim.
# Ties by number: 0: 0-1, 1: 0-2, 2: 1-2, 3: 2-3, 4: 3-4, 5: 3-5, 6: 4-5, 7: 5-6.
DUMBBELL = (7, ((0, 1), (0, 2), (1, 2), (2, 3), (3, 4), (3, 5), (4, 5), (5, 6)), (0, 4))
# A ring and a chain that nothing ties together.
PARTED = (6, ((0, 1), (0, 2), (1, 2), (3, 4), (4, 5)), (0, 1, 3, 5))
# The first short way, 0 1 2 6, stands in the way of both that go apart.
CROSSED = (7, ((0, 1), (0, 3), (1, 2), (1, 4), (2, 3), (2, 6), (4, 5), (5, 6)), (0, 6))
# The ties 0-1 and 4-5 are blind, the routes go by 2-3 alone.
HALF_BLIND = (6, ((0, 1), (2, 3), (4, 5)), (0, 2, 3, 5))
FULL = (7, ((0, 1), (0, 2), (0, 3), (1, 4), (2, 4), (2, 5), (3, 5), (4, 6), (5, 6)), (0, 4, 6))
# Nets whose best plans do not ask those routes first that part the cases left most evenly.
UNEVEN = (
    (6, ((0, 4), (1, 2), (1, 3), (1, 5), (2, 5), (3, 5)), (0, 1, 2, 4, 5)),
    (6, ((0, 2), (0, 4), (0, 5), (1, 3), (2, 5), (4, 5)), (0, 1, 2, 3, 5)),
    (6, ((0, 1), (0, 2), (0, 3), (0, 4), (1, 2), (2, 3), (2, 4), (2, 5)), (0, 2, 3, 5)),
    (7, ((0, 2), (1, 3), (1, 4), (1, 5), (1, 6), (4, 5), (5, 6)), (0, 1, 2, 4, 5)),
    (7, ((0, 1), (2, 3), (2, 4), (2, 5), (2, 6), (3, 5), (3, 6)), (0, 1, 3, 4, 6)),
    (7, ((0, 3), (0, 4), (1, 4), (2, 4), (2, 6), (3, 4), (3, 5), (4, 5)), (1, 2, 3, 4, 6)),
)
# More than is_net allows: ten ties, eight knots, all pairs of six knots, thirteen ties, a long chain.
WHEEL = (6, tuple(sorted([(0, k) for k in range(1, 6)] + [(1, 2), (2, 3), (3, 4), (4, 5), (1, 5)])), (0, 1, 3))
EIGHT = (8, ((0, 1), (0, 7), (1, 2), (2, 3), (3, 4), (4, 5), (5, 6), (6, 7)), (0, 3, 7))
ALL_SIX = (6, tuple(combinations(range(6), 2)), (1, 4))
# The tie 5-6 is gone by one way, left for a second one, and gone by a third, the other way about.
TURNED = (12, (
    (0, 3), (0, 4), (0, 5), (1, 4), (1, 6), (3, 7), (5, 6), (5, 9), (5, 10), (6, 7), (6, 11), (9, 11), (10, 11),
), (0, 11))
LONG = (40, tuple((k, k + 1) for k in range(39)), (0, 20, 39))

NETS = (LONE, BARE, CHAIN, RING, KITE, ONE_RIM, DUMBBELL, PARTED, CROSSED, HALF_BLIND, FULL)
WITHOUT_ROUTES = (LONE, BARE, ONE_RIM, (2, ((0, 1),), (1,)), (4, ((0, 1), (2, 3)), (0, 2)))
GREATER = (WHEEL, EIGHT, ALL_SIX, TURNED, LONG)


def subsets(row):
    return [part for size in range(len(row) + 1) for part in combinations(row, size)]


def small_nets(most):
    """All nets of one to most knots."""
    for many in range(1, most + 1):
        for ties in subsets(tuple(combinations(range(many), 2))):
            for rim in subsets(range(many))[1:]:
                yield (many, ties, rim)


def five_knot_nets():
    """All nets of five knots with at most nine ties, and the rims (0, 4) and (1, 2, 3)."""
    for ties in subsets(tuple(combinations(range(5), 2)))[:-1]:
        yield (5, ties, (0, 4))
        yield (5, ties, (1, 2, 3))


def joined(*nets):
    """All these nets in one, with no tie between them."""
    many, ties, rim = 0, [], []
    for more, more_ties, more_rim in nets:
        ties += [(many + one, many + other) for one, other in more_ties]
        rim += [many + knot for knot in more_rim]
        many += more
    return (many, tuple(ties), tuple(rim))


def nets_of_few_routes():
    """Nets of at most 24 routes, of which all choices can be tried."""
    some = list(small_nets(4)) + list(five_knot_nets())[::17] + list(NETS) + [EIGHT]
    return [net for net in some if len(slow_routes(net)) <= 24]


TIE = (2, ((0, 1),), (0, 1))
RIM_CHAIN = (3, ((0, 1), (1, 2)), (0, 1, 2))
# 24 routes each, but far more ties than is_net allows.
TIES_APART = joined(*[TIE] * 24)
CHAINS_APART = joined(*[RIM_CHAIN] * 8)
RINGS_APART = joined(TIE, TIE, TIE, TIE, TIE, TIE, RING, RING, RING)


def slow_reached(net, broken, knot):
    many, ties, rim = net
    whole = [tie for at, tie in enumerate(ties) if at not in broken]
    found = {knot}
    for turn in range(many):
        for one, other in whole:
            if one in found or other in found:
                found |= {one, other}
    return tuple(sorted(found))


@cache
def slow_routes(net):
    many, ties, rim = net
    found = []
    for size in range(2, many + 1):
        for row in permutations(range(many), size):
            ends = row[0] in rim and row[-1] in rim and row[0] < row[-1]
            if ends and all((a, b) in ties or (b, a) in ties for a, b in zip(row, row[1:])):
                found.append(row)
    return tuple(sorted(found))


@cache
def slow_ties_of(net, route):
    pairs = [set(pair) for pair in zip(route, route[1:])]
    return tuple(at for at, tie in enumerate(net[1]) if set(tie) in pairs)


def rim_pairs(net):
    """All pairs of unlike rim knots, either way round."""
    return list(permutations(net[2], 2))


def slow_between(net, one, other):
    return [route for route in slow_routes(net) if {route[0], route[-1]} == {one, other}]


def slow_apart(net, one, other):
    """The most routes between both, no two with a tie together, by trying all choices."""
    rows = [set(slow_ties_of(net, route)) for route in slow_between(net, one, other)]

    def most(at, taken):
        if at == len(rows):
            return 0
        without = most(at + 1, taken)
        if rows[at] & taken:
            return without
        return max(without, 1 + most(at + 1, taken | rows[at]))

    return most(0, set())


def slow_least_cut(net, one, other):
    """The first of the smallest choices of ties that, broken, leave other not reached from one."""
    for broken in subsets(range(len(net[1]))):
        if other not in slow_reached(net, broken, one):
            return broken
    raise AssertionError("unlike knots are apart if all ties are broken")


def fewest_to_part(net, one, other):
    """How many ties must break, at the least, until other is not reached from one."""
    return len(slow_least_cut(net, one, other))


def have_no_tie_together(net, chosen):
    rows = [set(slow_ties_of(net, route)) for route in chosen]
    return not any(one & other for one, other in combinations(rows, 2))


def slow_barring(net, one, other):
    """The first of the greatest choices of routes between both, no two with a tie together."""
    known = slow_between(net, one, other)
    found = ()
    for size in range(1, len(known) + 1):
        apart = [chosen for chosen in combinations(known, size) if have_no_tie_together(net, chosen)]
        if not apart:
            break
        found = apart[0]
    return found


@cache
def slow_shows(net, probes, broken):
    return tuple(not set(slow_ties_of(net, probe)) & set(broken) for probe in probes)


def slow_twins(net, probes):
    """Groups of ties, no two of which show otherwise if they alone are broken."""
    groups = []
    for tie in range(len(net[1])):
        alike = [group for group in groups if slow_shows(net, probes, (group[0],)) == slow_shows(net, probes, (tie,))]
        if alike:
            alike[0].append(tie)
        else:
            groups.append([tie])
    return tuple(tuple(group) for group in groups)


def slow_suspects(net, probes, shown):
    """None and all ties, as far as they show so."""
    breaks = [(None, ())] + [(tie, (tie,)) for tie in range(len(net[1]))]
    return tuple(case for case, broken in breaks if slow_shows(net, probes, broken) == shown)


def told_apart(net, probes):
    """All pairs of no broken tie, or one, that the probes tell apart."""
    breaks = [()] + [(tie,) for tie in range(len(net[1]))]
    shown = {broken: slow_shows(net, probes, broken) for broken in breaks}
    return {pair for pair in combinations(breaks, 2) if shown[pair[0]] != shown[pair[1]]}


def slow_cases(net):
    """None, then each tie that a route has and that all routes tell from all lesser ones."""
    apart = told_apart(net, slow_routes(net))
    ties = range(len(net[1]))
    firsts = [tie for tie in ties if all(((less,), (tie,)) in apart for less in range(tie))]
    return (None,) + tuple(tie for tie in firsts if ((), (tie,)) in apart)


def slow_left(net, told):
    """The cases that show all that was told."""
    left = []
    for case in slow_cases(net):
        broken = () if case is None else (case,)
        if all(slow_shows(net, (route,), broken) == (is_shown,) for route, is_shown in told):
            left.append(case)
    return tuple(left)


def slow_best(net, left):
    """The least route of those of which the greater part of the cases left is the least, or None."""
    found = []
    for route in slow_routes(net):
        broken = [case for case in left if case in slow_ties_of(net, route)]
        sizes = (len(broken), len(left) - len(broken))
        if min(sizes) > 0:
            found.append((max(sizes), route))
    return min(found)[1] if found else None


def least_meeting(net, things_of):
    """The first of the smallest choices of routes that has all things that all routes have together."""
    known = slow_routes(net)
    things = [things_of(route) for route in known]
    wanted = set().union(*things)
    for size in range(len(known) + 1):
        for numbers in combinations(range(len(known)), size):
            if set().union(*[things[number] for number in numbers]) == wanted:
                return tuple(known[number] for number in numbers)
    raise AssertionError("all routes have what all routes have")


def slow_least_probes(net):
    return least_meeting(net, lambda route: told_apart(net, (route,)))


def slow_least_seeing(net):
    return least_meeting(net, lambda route: set(slow_ties_of(net, route)))


def slow_least_deep(net):
    """How many probes the best of all plans asks at the most."""
    rows = [slow_ties_of(net, route) for route in slow_routes(net)]
    known = {}

    def least(left):
        if len(left) == 1:
            return 0
        if left not in known:
            parts = [(left - set(row), left & set(row)) for row in rows]
            known[left] = min(1 + max(least(part) for part in both) for both in parts if all(both))
        return known[left]

    return least(frozenset(slow_cases(net)))


def all_plans(net):
    """Every plan for the net."""
    rows = [(route, slow_ties_of(net, route)) for route in slow_routes(net)]

    def plans(left):
        if len(left) == 1:
            return [("is", left[0])]
        found = []
        for route, row in rows:
            whole = [case for case in left if case not in row]
            broken = [case for case in left if case in row]
            if whole and broken:
                found += [("ask", route, one, other) for one, other in product(plans(whole), plans(broken))]
        return found

    return plans(list(slow_cases(net)))
