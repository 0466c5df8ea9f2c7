"""Nets: what they are, and what their ties hold together.

A net is (many, ties, rim): its number of knots, its rising tuple of ties,
each (one, other) with one < other, and its rising tuple of rim knots.
"""

from probeties.errors import NoTie

MOST_KNOTS = 7
MOST_TIES = 9


def is_whole(thing):
    """Whether any thing is a whole number: truths are none, though Python counts them as ints."""
    return isinstance(thing, int) and not isinstance(thing, bool)


def is_number(many, thing):
    """Whether any thing is the number of one of many knots or ties."""
    return is_whole(thing) and 0 <= thing < many


def is_tie(many, thing):
    """Whether any thing could be a tie between two of many knots."""
    if not isinstance(thing, tuple) or len(thing) != 2:
        return False
    one, other = thing
    return is_number(many, one) and is_number(many, other) and one < other


def is_rising(row):
    """Whether each item is less than the next one, so that all are unlike."""
    return all(before < after for before, after in zip(row, row[1:]))


def are_ties(many, thing):
    """Whether any thing could be the ties of a net of many knots."""
    if not isinstance(thing, tuple) or len(thing) > MOST_TIES:
        return False
    return all(is_tie(many, tie) for tie in thing) and is_rising(thing)


def are_rising_numbers(many, thing):
    """Whether any thing is a rising tuple of numbers below many."""
    if not isinstance(thing, tuple):
        return False
    return all(is_number(many, number) for number in thing) and is_rising(thing)


def is_net(thing):
    """Whether any thing is a net."""
    if not isinstance(thing, tuple) or len(thing) != 3:
        return False
    many, ties, rim = thing
    if not is_whole(many) or not 1 <= many <= MOST_KNOTS:
        return False
    return are_ties(many, ties) and are_rising_numbers(many, rim) and len(rim) > 0


def ordered_pair(one, other):
    """Both knots as a tie has them, the lesser first."""
    return (min(one, other), max(one, other))


def is_tied(net, one, other):
    """Whether there is a tie between both knots."""
    return ordered_pair(one, other) in net[1]


def tie_between(net, one, other):
    """The number of the tie between two unlike knots, in any order; NoTie."""
    if not is_tied(net, one, other):
        raise NoTie(f"no tie between {one} and {other}")
    return net[1].index(ordered_pair(one, other))


def far_ends(ties, knot):
    """The other ends of all those of the ties that end at the knot."""
    return [other if one == knot else one for one, other in ties if knot in (one, other)]


def beside(net, knot):
    """All knots tied to the knot, rising."""
    return tuple(sorted(far_ends(net[1], knot)))


def whole_ties(net, broken):
    """All ties that are not broken, rising."""
    return tuple(tie for number, tie in enumerate(net[1]) if number not in broken)


def without_ties(net, broken):
    """The net that is left when the broken ties go."""
    return (net[0], whole_ties(net, broken), net[2])


def reached(net, broken, knot):
    """All knots to which ties that are not broken lead from the knot, it too, rising."""
    whole = whole_ties(net, broken)
    found = [knot]
    waiting = [knot]
    while waiting:
        at = waiting.pop()
        for near in far_ends(whole, at):
            if near not in found:
                found.append(near)
                waiting.append(near)
    return tuple(sorted(found))


def cut_off(net, broken):
    """All pairs of unlike rim knots, the lesser first, not reached from one another, rising."""
    rim = net[2]
    pairs = []
    for one in rim:
        near = reached(net, broken, one)
        pairs.extend([(one, other) for other in rim if one < other and other not in near])
    return tuple(pairs)


def parting_ties(net):
    """The numbers of all ties whose ends are apart if they alone are broken, rising."""
    parting = []
    for number, (one, other) in enumerate(net[1]):
        if other not in reached(net, (number,), one):
            parting.append(number)
    return tuple(parting)
