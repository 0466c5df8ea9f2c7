"""The interface of the modules that have landed, and [0.3]: nothing handed in is changed, the same is told again."""

import inspect
import unittest
from copy import deepcopy
from importlib import import_module

from probeties.errors import NoTie
from probeties import nets, routes
from samples import CROSSED, GREATER, KITE, NETS, PARTED

ARGUMENTS = {
    "nets": {"is_net": 1, "tie_between": 3, "beside": 2, "reached": 3, "cut_off": 2, "parting_ties": 1},
    "routes": {"is_route": 2, "routes": 1, "ties_of": 2, "through": 2, "blind": 1, "apart_routes": 3},
}

THINGS = (
    None, 3, "text", [], [3, [[0, 1]], [0]], (3, ([0, 1],), (0,)), (3, ((0, 1),), [0]), [0, 1, 3], (0, [1], 3),
    (0, 1, 3), [[[[[[[[[[1]]]]]]]]]],
)


def calls():
    """Functions with things to hand in, over all functions that have landed."""
    for thing in THINGS + NETS + GREATER:
        yield nets.is_net, [thing]
        yield routes.is_route, [deepcopy(KITE), thing]
    for net in (KITE, PARTED, CROSSED):
        rim = net[2]
        yield nets.tie_between, [net, 1, 0]
        yield nets.beside, [net, 1]
        yield nets.reached, [net, (4, 0, 3), 1]
        yield nets.cut_off, [net, (4, 0, 3)]
        yield nets.parting_ties, [net]
        yield routes.routes, [net]
        yield routes.ties_of, [net, routes.routes(net)[0]]
        yield routes.through, [net, 2]
        yield routes.blind, [net]
        yield routes.apart_routes, [net, rim[-1], rim[0]]


def is_told_kind(thing):
    """Whether a thing is of whole numbers, truths and tuples of such."""
    if type(thing) is tuple:
        return all(is_told_kind(item) for item in thing)
    return type(thing) in (int, bool)


class WholeTest(unittest.TestCase):
    def test_names_and_numbers_of_arguments(self):
        for module, functions in ARGUMENTS.items():
            for name, many in functions.items():
                function = getattr(import_module("probeties." + module), name)
                self.assertEqual(len(inspect.signature(function).parameters), many, name)

    def test_nothing_handed_in_is_changed_and_the_same_is_told_again(self):
        asked = set()
        for function, things in calls():
            before = deepcopy(things)
            first = function(*things)
            self.assertEqual(repr(things), repr(before), function.__name__)
            self.assertEqual(function(*things), first, function.__name__)
            self.assertEqual(function(*before), first, function.__name__)
            self.assertTrue(is_told_kind(first), function.__name__)
            asked.add(function.__name__)
        self.assertEqual(asked, {name for functions in ARGUMENTS.values() for name in functions})

    def test_told_once_more_after_others_were_asked(self):
        first = [function(*things) for function, things in calls()]
        self.assertEqual([function(*things) for function, things in calls()], first)

    def test_what_is_refused_is_refused_again(self):
        for turn in range(2):
            with self.assertRaises(NoTie):
                nets.tie_between(KITE, 0, 3)
            self.assertEqual(nets.tie_between(KITE, 1, 3), 3)


if __name__ == "__main__":
    unittest.main()
