"""Seekers, that keep what may be broken by what was shown so far; and nets that grow."""

from probeties.errors import NoRoute, NoStep, NoSuspect
from probeties.nets import without_ties
from probeties.plans import asks_of, cases, parted, splits_of
from probeties.routes import is_route, ties_of


class Seeker:
    """All cases of a net, and those that are left behind each route told."""

    def __init__(self, net):
        self.net = net
        self.told = []
        # The cases left before anything was told, then behind each that was.
        self.rests = [cases(net)]

    def left(self):
        """The cases left, in the order of cases."""
        return self.rests[-1]

    def tell(self, route, is_shown):
        """Let all cases go that would show otherwise; NoRoute, NoSuspect."""
        if not is_route(self.net, route):
            raise NoRoute(f"no route: {route}")
        whole, broken = parted(self.left(), ties_of(self.net, route))
        rest = whole if is_shown else broken
        if not rest:
            raise NoSuspect(f"no case left shows {is_shown} by {route}")
        self.told.append((route, is_shown))
        self.rests.append(rest)

    def history(self):
        """Each route and truth, as they were told."""
        return tuple(self.told)

    def back(self):
        """Take back what was told last; NoStep."""
        if not self.told:
            raise NoStep("nothing was told")
        self.told.pop()
        self.rests.pop()

    def best(self):
        """The route that parts the cases left most evenly, of several the least; None if none parts them."""
        splits = splits_of(asks_of(self.net), self.left())
        return splits[0][0] if splits else None


def with_tie(net, tie):
    """The net with this tie, too."""
    many, ties, rim = net
    return (many, tuple(sorted(set(ties + (tie,)))), rim)


def with_knot(net, is_rim):
    """The net with one knot more, on the rim if told so."""
    many, ties, rim = net
    return (many + 1, ties, rim + (many,) if is_rim else rim)


def broken_off(net, tie):
    """The net without the tie of this number."""
    return without_ties(net, (tie,))
