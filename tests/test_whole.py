"""The interface of the modules that have landed, and [0.3]: nothing handed in is changed, the same is told again."""

import inspect
import unittest
from copy import deepcopy
from importlib import import_module

from probeties.errors import NoSuspect, NoTie
from probeties import fewest, nets, plans, routes, showing
from samples import CROSSED, GREATER, HALF_BLIND, KITE, LONE, NETS, ONE_RIM, PARTED

ARGUMENTS = {
    "nets": {"is_net": 1, "tie_between": 3, "beside": 2, "reached": 3, "cut_off": 2, "parting_ties": 1},
    "routes": {"is_route": 2, "routes": 1, "ties_of": 2, "through": 2, "blind": 1, "apart_routes": 3},
    "showing": {
        "shows": 3, "failing": 2, "unseen": 2, "twins": 2, "kinds": 1, "suspects": 3, "suspect_pairs": 3, "the_one": 3,
        "untold_pairs": 2, "is_enough": 2,
    },
    "fewest": {"least_probes": 1, "fewest": 1, "least_seeing": 1, "needless": 2, "short": 2},
    "plans": {"cases": 1, "least_deep": 1, "plan": 1, "deep": 1, "followed": 3, "is_plan": 2},
}

THINGS = (
    None, 3, "text", [], [3, [[0, 1]], [0]], (3, ([0, 1],), (0,)), (3, ((0, 1),), [0]), [0, 1, 3], (0, [1], 3),
    (0, 1, 3), [[[[[[[[[[1]]]]]]]]]], ("is", None), ["is", None], ("ask", [0, 1, 3], ("is", None), ["is", 0]),
)


def calls():
    """Functions with things to hand in, over all functions that have landed."""
    for thing in THINGS + NETS + GREATER:
        yield nets.is_net, [thing]
        yield routes.is_route, [deepcopy(KITE), thing]
        yield plans.is_plan, [deepcopy(KITE), thing]
    for net in (KITE, PARTED, CROSSED):
        rim = net[2]
        yield nets.tie_between, [net, 1, 0]
        yield nets.beside, [net, 1]
        yield nets.reached, [net, (4, 0, 3), 1]
        yield nets.cut_off, [net, (4, 0, 3)]
        yield nets.parting_ties, [net]
        yield routes.routes, [net]
        yield routes.ties_of, [net, routes.routes(net)[0]]
        yield routes.through, [net, 2]
        yield routes.blind, [net]
        yield routes.apart_routes, [net, rim[-1], rim[0]]
    yield from later_calls()


def later_calls():
    """Likewise of what probes show, the fewest probes, and plans."""
    for net in (LONE, ONE_RIM, HALF_BLIND, KITE, PARTED, CROSSED):
        known = routes.routes(net)
        for probes in ((), known, known[::-1] + known[:1]):
            shown = showing.shows(net, probes, (1,))
            yield showing.shows, [net, probes, (2, 0)]
            yield from [(asked, [net, probes]) for asked in (showing.failing, showing.unseen, showing.twins)]
            yield from [(asked, [net, probes]) for asked in (showing.is_enough, showing.untold_pairs)]
            yield from [(asked, [net, probes, shown]) for asked in (showing.suspects, showing.suspect_pairs)]
            yield from [(asked, [net, probes]) for asked in (fewest.needless, fewest.short)]
        yield from [(asked, [net]) for asked in (fewest.least_probes, fewest.fewest, fewest.least_seeing)]
        yield from [(asked, [net]) for asked in (showing.kinds, plans.cases, plans.least_deep, plans.plan)]
        told = plans.plan(net)
        yield plans.deep, [told]
        yield plans.is_plan, [net, told]
        yield plans.followed, [net, told, (2, 1)]
    yield showing.the_one, [KITE, routes.routes(KITE), (False, False, True, True)]


def is_told_kind(thing):
    """Whether a thing is of whole numbers, truths, texts, None and tuples of such."""
    if type(thing) is tuple:
        return all(is_told_kind(item) for item in thing)
    return thing is None or type(thing) in (int, bool, str)


class WholeTest(unittest.TestCase):
    def test_names_and_numbers_of_arguments(self):
        for module, functions in ARGUMENTS.items():
            for name, many in functions.items():
                function = getattr(import_module("probeties." + module), name)
                self.assertEqual(len(inspect.signature(function).parameters), many, name)

    def test_nothing_handed_in_is_changed_and_the_same_is_told_again(self):
        asked = set()
        for function, things in calls():
            before = deepcopy(things)
            first = function(*things)
            self.assertEqual(repr(things), repr(before), function.__name__)
            self.assertEqual(function(*things), first, function.__name__)
            self.assertEqual(function(*before), first, function.__name__)
            self.assertTrue(is_told_kind(first), function.__name__)
            asked.add(function.__name__)
        self.assertEqual(asked, {name for functions in ARGUMENTS.values() for name in functions})

    def test_told_once_more_after_others_were_asked(self):
        first = [function(*things) for function, things in calls()]
        self.assertEqual([function(*things) for function, things in calls()], first)

    def test_what_is_refused_is_refused_again(self):
        for turn in range(2):
            with self.assertRaises(NoTie):
                nets.tie_between(KITE, 0, 3)
            self.assertEqual(nets.tie_between(KITE, 1, 3), 3)
            with self.assertRaises(NoSuspect):
                showing.the_one(KITE, ((0, 1, 3),), (False,))
            self.assertEqual(showing.suspects(KITE, ((0, 1, 3),), (False,)), (0, 3))


if __name__ == "__main__":
    unittest.main()
