"""What probes show: which ties they tell apart, and what may be broken by what was shown."""

from probeties.errors import NoSuspect
from probeties.routes import routes, ties_of


def rows_of(net, probes):
    """For each probe the numbers of its ties."""
    return [ties_of(net, probe) for probe in probes]


def is_unbroken(row, broken):
    """Whether none of the ties of the row is broken."""
    return all(tie not in broken for tie in row)


def shown_by(rows, broken):
    """For each row of ties whether none of them is broken."""
    return tuple(is_unbroken(row, broken) for row in rows)


def shows(net, probes, broken):
    """For each probe whether none of its ties is broken."""
    return shown_by(rows_of(net, probes), broken)


def rows_with(rows, tie):
    """The numbers of all rows that have the tie, rising."""
    return tuple(number for number, row in enumerate(rows) if tie in row)


def failing(net, probes):
    """For each tie the numbers of all probes that have it, rising."""
    rows = rows_of(net, probes)
    return tuple(rows_with(rows, tie) for tie in range(len(net[1])))


def unseen(net, probes):
    """The numbers of all ties that no probe has, rising."""
    return tuple(tie for tie, had_by in enumerate(failing(net, probes)) if not had_by)


def twins(net, probes):
    """The numbers of all ties in rising groups of those that the same probes have, by their first ones."""
    groups = {}
    for tie, had_by in enumerate(failing(net, probes)):
        groups.setdefault(had_by, []).append(tie)
    return tuple(tuple(group) for group in groups.values())


def kinds(net):
    """The groups of ties that no probes tell apart, by their first ones."""
    return twins(net, routes(net))


def told_by(net, probes):
    """All that the probes can tell of one broken tie: the groups, and which ties they do not see."""
    return (twins(net, probes), unseen(net, probes))


def is_enough(net, probes):
    """Whether the probes tell as much as all routes do."""
    return told_by(net, probes) == told_by(net, routes(net))


def suspects(net, probes, shown):
    """None, if all are shown True; then the numbers of all ties that broken alone show so, rising."""
    rows = rows_of(net, probes)
    nothing = (None,) if all(shown) else ()
    return nothing + tuple(tie for tie in range(len(net[1])) if shown_by(rows, (tie,)) == shown)


def pairs_of(row):
    """All pairs of items of a rising row, the lesser first, rising."""
    return [(one, other) for at, one in enumerate(row) for other in row[at + 1:]]


def suspect_pairs(net, probes, shown):
    """All pairs of unlike ties, the lesser first, that both broken show so, rising."""
    rows = rows_of(net, probes)
    pairs = pairs_of(list(range(len(net[1]))))
    return tuple(pair for pair in pairs if shown_by(rows, pair) == shown)


def the_one(net, probes, shown):
    """The number of the one tie that alone shows so, if it may be nothing else; NoSuspect."""
    found = suspects(net, probes, shown)
    if len(found) != 1 or found[0] is None:
        raise NoSuspect(f"not just one tie shows so: {found}")
    return found[0]


def untold_pairs(net, probes):
    """All pairs of unlike tuples of one broken tie or two, the lesser first, that show the same, rising."""
    rows = rows_of(net, probes)
    ties = list(range(len(net[1])))
    breaks = sorted([(tie,) for tie in ties] + pairs_of(ties))
    shown = {broken: shown_by(rows, broken) for broken in breaks}
    return tuple(pair for pair in pairs_of(breaks) if shown[pair[0]] == shown[pair[1]])
