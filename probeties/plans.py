"""Plans: which probe is asked behind which, until just one case is left.

A case is None, that nothing is broken, or the number of the first tie of a group that no probes tell apart.
A plan is ("is", case) or ("ask", route, whole, broken), both of the last two plans.
"""

from probeties.fewest import least_seeing
from probeties.nets import is_whole
from probeties.routes import blind, is_route, routes, ties_of
from probeties.showing import is_unbroken, kinds


def cases(net):
    """None, then the first tie of each group that some route has, rising."""
    hidden = blind(net)
    return (None,) + tuple(group[0] for group in kinds(net) if group[0] not in hidden)


def parted(left, row):
    """Those of the cases left that show True by a probe with this row of ties, and the others."""
    whole = tuple(case for case in left if case not in row)
    broken = tuple(case for case in left if case in row)
    return (whole, broken)


def greater_part(split):
    """How many cases are left, at the most, behind the split."""
    return max(len(split[1]), len(split[2]))


def asks_of(net):
    """All routes, rising, each with the numbers of its ties."""
    return [(route, ties_of(net, route)) for route in routes(net)]


def splits_of(asks, left):
    """Each (route, whole, broken) by which some cases left show True and some False.

    The most even ones come first, of several as even those that are asked first.
    """
    splits = []
    for route, row in asks:
        whole, broken = parted(left, row)
        if whole and broken:
            splits.append((route, whole, broken))
    return sorted(splits, key=greater_part)


def asks_needed(many, most_gone):
    """How many asks many cases need at the least, if none parts off more than most_gone of them."""
    asks = 0
    while many > 1:
        # The greater part may be what is left each time.
        many -= min(most_gone, many // 2)
        asks += 1
    return asks


def plan_within(asks, left, room, failed):
    """A plan for the cases left that asks room probes at the most, or None.

    failed keeps for cases left the greatest room in which they are known to have no plan.
    """
    if len(left) == 1:
        return ("is", left[0])
    if room <= failed.get(left, 0):
        return None
    splits = splits_of(asks, left)
    if asks_needed(len(left), len(left) - greater_part(splits[0])) <= room:
        for split in splits:
            found = split_within(asks, split, room - 1, failed)
            if found is not None:
                return found
    failed[left] = room
    return None


def split_within(asks, split, room, failed):
    """A plan that begins with the split, and asks room probes more at the most, or None."""
    route, whole, broken = split
    if_whole = plan_within(asks, whole, room, failed)
    if if_whole is None:
        return None
    if_broken = plan_within(asks, broken, room, failed)
    if if_broken is None:
        return None
    return ("ask", route, if_whole, if_broken)


def plan(net):
    """A plan for the net that asks as few probes at the most as can be."""
    asks = asks_of(net)
    left = cases(net)
    failed = {}
    # Where all is whole, those asked must go by all ties that any route has.
    room = len(least_seeing(net))
    found = plan_within(asks, left, room, failed)
    while found is None:
        room += 1
        found = plan_within(asks, left, room, failed)
    return found


def least_deep(net):
    """How many probes a plan for the net must ask at the most, as few as can be."""
    return deep(plan(net))


def deep(asking):
    """How many probes the plan asks at the most."""
    most = 0
    waiting = [(asking, 0)]
    while waiting:
        part, asked = waiting.pop()
        most = max(most, asked)
        if part[0] == "ask":
            waiting.extend([(part[2], asked + 1), (part[3], asked + 1)])
    return most


def is_case(thing, case):
    """Whether any thing is this case: True and False are no numbers of ties, though they equal 1 and 0."""
    if case is None:
        return thing is None
    return is_whole(thing) and thing == case


def is_end(thing, left):
    """Whether any thing is a plan that asks nothing, for the cases left."""
    if not isinstance(thing, tuple) or len(thing) != 2 or len(left) != 1:
        return False
    return thing[0] == "is" and is_case(thing[1], left[0])


def is_ask(net, thing):
    """Whether any thing asks a route first, whatever its parts are."""
    if not isinstance(thing, tuple) or len(thing) != 4:
        return False
    return thing[0] == "ask" and is_route(net, thing[1])


def is_plan(net, thing):
    """Whether any thing is a plan for the net."""
    waiting = [(thing, cases(net))]
    while waiting:
        part, left = waiting.pop()
        if is_ask(net, part):
            whole, broken = parted(left, ties_of(net, part[1]))
            if not whole or not broken:
                return False
            waiting.extend([(part[2], whole), (part[3], broken)])
        elif not is_end(part, left):
            return False
    return True


def followed(net, asking, broken):
    """The case to which the plan comes if these ties are broken, and the tuple of all routes asked."""
    asked = ()
    part = asking
    while part[0] == "ask":
        asked += (part[1],)
        part = part[2] if is_unbroken(ties_of(net, part[1]), broken) else part[3]
    return (part[1], asked)
