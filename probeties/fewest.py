"""The fewest probes that tell all that any tell, or that go by all ties that any go by.

Routes are chosen by their numbers, as routes orders them. A need is a number whose bits are those of the routes
of which one, at least, must be chosen.
"""

from probeties.routes import routes
from probeties.showing import failing, told_by


def as_bits(numbers):
    """A number that has just the bits of these numbers."""
    return sum(1 << number for number in numbers)


def routes_by_tie(net):
    """For each tie the routes that have it, as bits."""
    return [as_bits(numbers) for numbers in failing(net, routes(net))]


def telling_needs(net):
    """For each two cases that some route tells apart the routes that do so, as bits."""
    # The case that nothing is broken, which no route shows broken, has no bits.
    cases = sorted(set([0] + routes_by_tie(net)))
    return sorted({one ^ other for one in cases for other in cases if one < other})


def seeing_needs(net):
    """For each tie that some route has all routes that have it, as bits."""
    return sorted({bits for bits in routes_by_tie(net) if bits})


def without_implied(needs):
    """Those of the needs in which no other one lies, as what meets that one meets them, too."""
    return [need for need in needs if not any(less & need == less and less != need for less in needs)]


def choice_within(needs, first, room):
    """A rising tuple of at most room numbers from first on that meets all needs, or None.

    It is the least one with so many numbers, if no fewer than room meet all needs.
    """
    if not needs:
        return ()
    if room == 0:
        return None
    # To go beyond the last bit of a need would leave that need unmet.
    for number in range(first, min(need.bit_length() for need in needs)):
        unmet = [need for need in needs if not need >> number & 1]
        rest = choice_within(unmet, number + 1, room - 1)
        if rest is not None:
            return (number,) + rest
    return None


def least_choice(needs):
    """The least rising tuple of numbers that meets all needs, of those with as few as can be."""
    sharp = without_implied(needs)
    room = 0
    choice = choice_within(sharp, 0, room)
    while choice is None:
        room += 1
        choice = choice_within(sharp, 0, room)
    return choice


def routes_numbered(net, numbers):
    """The routes of the net that have these numbers."""
    known = routes(net)
    return tuple(known[number] for number in numbers)


def least_probes(net):
    """The least rising tuple of routes that is enough, of those with as few as can be."""
    return routes_numbered(net, least_choice(telling_needs(net)))


def fewest(net):
    """How many probes are enough, at the least."""
    return len(least_probes(net))


def least_seeing(net):
    """The least rising tuple of routes by which all ties go that any do, of those with as few as can be."""
    return routes_numbered(net, least_choice(seeing_needs(net)))


def all_but(probes, number):
    """The probes without the one of this number."""
    return probes[:number] + probes[number + 1:]


def needless(net, probes):
    """The numbers of all probes without each of which, alone, the others are enough, rising."""
    wanted = told_by(net, routes(net))
    return tuple(number for number in range(len(probes)) if told_by(net, all_but(probes, number)) == wanted)


def short(net, probes):
    """What is left of enough probes when, from the last one on, each goes that the others left do without."""
    wanted = told_by(net, routes(net))
    left = probes
    for number in reversed(range(len(probes))):
        others = all_but(left, number)
        if told_by(net, others) == wanted:
            left = others
    return left
