"""Ties without which two rim knots are apart, and routes that show that fewer do not part them.

One and other are unlike rim knots everywhere, in any order.
"""

from probeties.errors import NoRoute
from probeties.nets import are_rising_numbers, is_rising, ordered_pair, reached, without_ties
from probeties.routes import apart_routes, is_route, open_way, routes, ties_of
from probeties.showing import is_unbroken


def is_cut(net, one, other, thing):
    """Whether any thing is a rising tuple of numbers of ties that, broken, part other from one."""
    return are_rising_numbers(len(net[1]), thing) and other not in reached(net, thing, one)


def strength(net, one, other):
    """How many ties must break, at the least, to part both."""
    # Each of the routes that are apart needs a tie of its own to break, and no more need to than there are such.
    return apart_routes(net, one, other)


def strength_without(net, broken, one, other):
    """How many ties more must break, at the least, to part both."""
    return strength(without_ties(net, broken), one, other)


def least_cut(net, one, other):
    """The least rising tuple of numbers of ties that part both, of those with as few as can be."""
    room = strength(net, one, other)
    cut = ()
    for tie in range(len(net[1])):
        # One that leaves as many to break is in no cut with as few that has those taken.
        if strength_without(net, cut + (tie,), one, other) < room:
            cut += (tie,)
            room -= 1
    return cut


def is_between(one, other, route):
    """Whether the route goes between both."""
    return (route[0], route[-1]) == ordered_pair(one, other)


def are_routes_between(net, one, other, thing):
    """Whether any thing is a tuple of routes between both."""
    if not isinstance(thing, tuple):
        return False
    return all(is_route(net, route) and is_between(one, other, route) for route in thing)


def is_barring(net, one, other, thing):
    """Whether any thing is a tuple of routes between both, no two with a tie together."""
    if not are_routes_between(net, one, other, thing):
        return False
    return is_rising(sorted(tie for route in thing for tie in ties_of(net, route)))


def barring(net, one, other):
    """The least rising tuple of routes between both, no two with a tie together, of those with as many as can be."""
    room = strength(net, one, other)
    chosen = ()
    gone = ()
    for route in routes(net):
        row = ties_of(net, route)
        if not is_between(one, other, route) or not is_unbroken(row, gone):
            continue
        # One that leaves fewer than one less is in no such tuple with as many that has those chosen.
        if strength_without(net, gone + row, one, other) == room - 1:
            chosen += (route,)
            gone += row
            room -= 1
    return chosen


def shortest(net, one, other):
    """The route between both with the fewest knots, of several the least; NoRoute."""
    first, last = ordered_pair(one, other)
    way = open_way(net, [], first, last)
    if way is None:
        raise NoRoute(f"no route between {one} and {other}")
    return way
