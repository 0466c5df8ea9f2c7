"""Routes: the ways from rim to rim that a probe may go."""

from probeties.nets import beside, is_number, is_rising, is_tied, tie_between


def steps_of(way):
    """The pairs of neighbours along the way."""
    return list(zip(way, way[1:]))


def are_unlike_knots(many, thing):
    """Whether any thing is a tuple of unlike knots, of many there are."""
    if not isinstance(thing, tuple) or not all(is_number(many, knot) for knot in thing):
        return False
    return is_rising(sorted(thing))


def has_route_ends(net, way):
    """Whether the way goes from rim to rim, from the lesser knot to the greater."""
    first = way[0]
    last = way[-1]
    return first in net[2] and last in net[2] and first < last


def is_route(net, thing):
    """Whether any thing is a route of the net."""
    if not are_unlike_knots(net[0], thing) or len(thing) < 2:
        return False
    return has_route_ends(net, thing) and all(is_tied(net, one, other) for one, other in steps_of(thing))


def routes(net):
    """All routes of the net, rising."""
    found = []
    # No route begins at the greatest rim knot, for none on the rim is greater.
    waiting = [(knot,) for knot in net[2][:-1]]
    while waiting:
        way = waiting.pop()
        if has_route_ends(net, way):
            found.append(way)
        waiting.extend([way + (knot,) for knot in beside(net, way[-1]) if knot not in way])
    return tuple(sorted(found))


def ties_of(net, route):
    """The numbers of the ties of the route, rising."""
    return tuple(sorted(tie_between(net, one, other) for one, other in steps_of(route)))


def through(net, tie):
    """All routes that have the tie of this number, rising."""
    return tuple(route for route in routes(net) if tie in ties_of(net, route))


def blind(net):
    """The numbers of all ties that no route has, rising."""
    seen = {tie: True for route in routes(net) for tie in ties_of(net, route)}
    return tuple(tie for tie in range(len(net[1])) if tie not in seen)


def open_way(net, taken, one, other):
    """The way from one to other by steps that are not taken with the fewest knots, of several the least; or None."""
    # The shorter ways come first, of those of one length the lesser, so the first to come to a knot is the one.
    seen = {one: True}
    waiting = [(one,)]
    while waiting:
        way = waiting.pop(0)
        if way[-1] == other:
            return way
        for knot in beside(net, way[-1]):
            if knot not in seen and (way[-1], knot) not in taken:
                seen[knot] = True
                waiting.append(way + (knot,))
    return None


def steps_with(taken, way):
    """The steps taken when the way is gone, too."""
    # Two ways that go by one tie against each other change their ends there, and both leave the tie.
    steps = steps_of(way)
    kept = [(one, other) for one, other in taken if (other, one) not in steps]
    added = [(one, other) for one, other in steps if (other, one) not in taken]
    return kept + added


def apart_routes(net, one, other):
    """How many routes between two unlike rim knots there are at the most, no two with a tie together."""
    many = 0
    taken = []
    way = open_way(net, taken, one, other)
    while way is not None:
        many += 1
        taken = steps_with(taken, way)
        way = open_way(net, taken, one, other)
    return many
