"""The whole program: its interface, [0.1] to [0.5] over all modules together."""

import inspect
import unittest
from copy import deepcopy
from importlib import import_module
from itertools import combinations, permutations

from probeties import cutting, errors, fewest, nets, plans, routes, seekers, showing, texts
from probeties.seekers import Seeker, broken_off, with_knot, with_tie
from samples import (
    CROSSED, FULL, GREATER, HALF_BLIND, KITE, LONE, NETS, ONE_RIM, PARTED, rim_pairs, slow_apart, slow_barring,
    slow_best, slow_cases, slow_least_cut, slow_least_deep, slow_least_probes, slow_least_seeing, slow_left,
    slow_reached, slow_routes, slow_shows, slow_suspects, slow_ties_of, slow_twins, small_nets,
)

ARGUMENTS = {
    "nets": {"is_net": 1, "tie_between": 3, "beside": 2, "reached": 3, "cut_off": 2, "parting_ties": 1},
    "routes": {"is_route": 2, "routes": 1, "ties_of": 2, "through": 2, "blind": 1, "apart_routes": 3},
    "showing": {
        "shows": 3, "failing": 2, "unseen": 2, "twins": 2, "kinds": 1, "suspects": 3, "suspect_pairs": 3, "the_one": 3,
        "untold_pairs": 2, "is_enough": 2,
    },
    "fewest": {"least_probes": 1, "fewest": 1, "least_seeing": 1, "needless": 2, "short": 2},
    "plans": {"cases": 1, "least_deep": 1, "plan": 1, "deep": 1, "followed": 3, "is_plan": 2},
    "cutting": {"is_cut": 4, "is_barring": 4, "least_cut": 3, "strength": 3, "barring": 3, "shortest": 3},
    "seekers": {"with_tie": 2, "with_knot": 2, "broken_off": 2},
    "texts": {"written": 1, "read": 1},
}
ALL_NAMES = {name for functions in ARGUMENTS.values() for name in functions}
# Of these alone greater nets are not asked.
OF_NETS_ONLY = {"is_net", "written", "read"}
METHODS = {"left": 0, "tell": 2, "history": 0, "back": 0, "best": 0}
REFUSALS = (errors.NoTie, errors.NoRoute, errors.NoSuspect, errors.NoStep, errors.NoText)

THINGS = (
    None, 3, "text", [], [3, [[0, 1]], [0]], (3, ([0, 1],), (0,)), (3, ((0, 1),), [0]), [0, 1, 3], (0, [1], 3),
    (0, 1, 3), [[[[[[[[[[1]]]]]]]]]], ("is", None), ["is", None], ("ask", [0, 1, 3], ("is", None), ["is", 0]),
    [0, 1], (0, 1), (0, [1]), ((0, 1, 3), (0, 2, 3)), [(0, 1, 3)], ([0, 1, 3],), ((0, 1, 3), [0, 2, 3]),
)


def grown_nets():
    """Nets of at most 24 routes that with_tie and with_knot tell, and is_net does not allow."""
    eight_knots = with_tie(with_tie(with_knot(CROSSED, True), (6, 7)), (3, 7))
    eleven_ties = with_tie(with_tie((7, FULL[1], (0, 4)), (0, 4)), (1, 2))
    bare = LONE
    for turn in range(8):
        bare = with_knot(bare, turn in (2, 7))
    less = broken_off(broken_off(eight_knots, 0), 3)
    return (eight_knots, eleven_ties, bare, with_tie(bare, (3, 8)), less)


def calls():
    """Functions with things to hand in, over all functions."""
    for thing in THINGS + NETS + GREATER:
        yield nets.is_net, [thing]
        yield from calls_of_things(KITE, thing)
    for net in (LONE, ONE_RIM, HALF_BLIND, KITE, PARTED, CROSSED):
        yield nets.is_net, [net]
        yield texts.written, [net]
        yield texts.read, [texts.written(net)]
        yield from calls_with(net)


def calls_of_things(net, thing):
    yield routes.is_route, [net, thing]
    yield plans.is_plan, [net, thing]
    for one, other in rim_pairs(net)[:2]:
        yield cutting.is_cut, [net, one, other, thing]
        yield cutting.is_barring, [net, one, other, thing]


def calls_with(net):
    """All functions that may be asked of greater nets, too."""
    for tie, (one, other) in enumerate(net[1]):
        yield nets.tie_between, [net, other, one]
        yield routes.through, [net, tie]
        yield seekers.broken_off, [net, tie]
        yield seekers.with_tie, [net, (one, other)]
    ends = (0, net[0] - 1)
    yield nets.beside, [net, net[0] - 1]
    yield from [(nets.reached, [net, broken, knot]) for broken in ((), (1, 0)) for knot in ends]
    yield nets.cut_off, [net, (4, 0, 3)]
    yield from [(asked, [net]) for asked in (nets.parting_ties, routes.routes, routes.blind, showing.kinds)]
    yield from [(routes.ties_of, [net, route]) for route in routes.routes(net)]
    yield from [(seekers.with_knot, [net, is_rim]) for is_rim in (True, False)]
    yield from calls_of_probes(net)
    yield from calls_of_pairs(net)


def calls_of_probes(net):
    """Likewise of what probes show, the fewest probes, and plans."""
    known = routes.routes(net)
    for probes in ((), known, known[::-1] + known[:1]):
        shown = showing.shows(net, probes, (1,))
        yield showing.shows, [net, probes, (2, 0)]
        yield from [(asked, [net, probes]) for asked in (showing.failing, showing.unseen, showing.twins)]
        yield from [(asked, [net, probes]) for asked in (showing.is_enough, showing.untold_pairs)]
        yield from [(asked, [net, probes, shown]) for asked in (showing.suspects, showing.suspect_pairs)]
        yield fewest.needless, [net, probes]
        if len(showing.suspects(net, probes, shown)) == 1 and not all(shown):
            yield showing.the_one, [net, probes, shown]
    yield fewest.short, [net, known[::-1] + known[:1]]
    yield from [(asked, [net]) for asked in (fewest.least_probes, fewest.fewest, fewest.least_seeing)]
    yield from [(asked, [net]) for asked in (plans.cases, plans.least_deep, plans.plan)]
    told = plans.plan(net)
    yield plans.deep, [told]
    yield plans.is_plan, [net, told]
    yield plans.followed, [net, told, (2, 1)]


def calls_of_pairs(net):
    """Likewise of ties that part two rim knots."""
    for one, other in rim_pairs(net):
        yield from [(asked, [net, one, other]) for asked in (routes.apart_routes, cutting.strength)]
        yield from [(asked, [net, one, other]) for asked in (cutting.least_cut, cutting.barring)]
        yield cutting.is_cut, [net, one, other, cutting.least_cut(net, one, other)]
        yield cutting.is_barring, [net, one, other, cutting.barring(net, one, other)]
        if cutting.strength(net, one, other):
            yield cutting.shortest, [net, one, other]


def refused_calls():
    """Each refusal that the document tells, with its class."""
    told = Seeker(KITE)
    told.tell((0, 1, 3), True)
    yield errors.NoTie, nets.tie_between, [KITE, 3, 0]
    yield errors.NoSuspect, showing.the_one, [KITE, ((0, 1, 3),), (False,)]
    yield errors.NoSuspect, showing.the_one, [KITE, (), ()]
    yield errors.NoRoute, cutting.shortest, [PARTED, 0, 3]
    yield errors.NoRoute, cutting.shortest, [PARTED, 3, 0]
    yield errors.NoRoute, told.tell, [(3, 1, 0), True]
    yield errors.NoRoute, told.tell, [(3, 1, 0), False]
    yield errors.NoSuspect, told.tell, [(0, 1, 3), False]
    yield errors.NoStep, Seeker(KITE).back, []
    yield errors.NoText, texts.read, [""]
    yield errors.NoText, texts.read, ["3;01,12;20"]


def is_told_kind(thing):
    """Whether a thing is of whole numbers, truths, texts, None and tuples of such."""
    if type(thing) is tuple:
        return all(is_told_kind(item) for item in thing)
    return thing is None or type(thing) in (int, bool, str)


class InterfaceTest(unittest.TestCase):
    def test_names_and_numbers_of_arguments(self):
        for module, functions in ARGUMENTS.items():
            for name, many in functions.items():
                function = getattr(import_module("probeties." + module), name)
                self.assertEqual(len(inspect.signature(function).parameters), many, name)

    def test_methods_stand_in_the_class_itself(self):
        self.assertEqual(len(inspect.signature(Seeker).parameters), 1)
        for name, many in METHODS.items():
            self.assertIn(name, Seeker.__dict__)
            self.assertEqual(len(inspect.signature(getattr(Seeker(KITE), name)).parameters), many, name)


class SameAgainTest(unittest.TestCase):
    def test_nothing_handed_in_is_changed_and_the_same_is_told_again(self):
        asked = set()
        for function, things in calls():
            before = deepcopy(things)
            first = function(*things)
            self.assertEqual(repr(things), repr(before), function.__name__)
            self.assertEqual(repr(function(*things)), repr(first), function.__name__)
            self.assertEqual(repr(function(*before)), repr(first), function.__name__)
            self.assertTrue(is_told_kind(first), function.__name__)
            asked.add(function.__name__)
        self.assertEqual(asked, ALL_NAMES)

    def test_told_once_more_after_others_were_asked(self):
        first = [function(*things) for function, things in calls()]
        self.assertEqual([function(*things) for function, things in calls()], first)

    def test_what_a_seeker_tells(self):
        seeker = Seeker(deepcopy(KITE))
        for deed in (lambda: seeker.tell((0, 1, 3), False), lambda: seeker.tell((0, 2, 1, 3), True), seeker.back):
            self.assertIsNone(deed())
            for asked in (seeker.left, seeker.history, seeker.best):
                first = asked()
                self.assertTrue(is_told_kind(first))
                self.assertEqual(asked(), first)

    def test_asking_the_functions_changes_no_seeker(self):
        seeker = Seeker(KITE)
        seeker.tell((0, 1, 3), False)
        before = (seeker.left(), seeker.history(), seeker.best())
        for function, things in calls_with(KITE):
            function(*things)
        self.assertEqual((seeker.left(), seeker.history(), seeker.best()), before)


class RefusalTest(unittest.TestCase):
    def test_each_is_of_its_own_class_and_of_no_other(self):
        raised = set()
        for error, function, things in refused_calls():
            before = deepcopy(things)
            for turn in range(2):
                with self.assertRaises(ValueError) as caught:
                    function(*things)
                self.assertIs(type(caught.exception), error)
                self.assertIsInstance(caught.exception, errors.ProbeError)
                self.assertEqual([isinstance(caught.exception, other) for other in REFUSALS].count(True), 1)
                self.assertEqual(things, before)
            raised.add(error)
        self.assertEqual(raised, set(REFUSALS))

    def test_what_is_refused_changes_nothing(self):
        for turn in range(2):
            for error, function, things in refused_calls():
                self.assertRaises(error, function, *things)
            self.assertEqual(nets.tie_between(KITE, 1, 3), 3)
            self.assertEqual(showing.suspects(KITE, ((0, 1, 3),), (False,)), (0, 3))
            self.assertEqual(cutting.shortest(PARTED, 0, 1), (0, 1))
            self.assertEqual(texts.read("3;01,12;02"), (3, ((0, 1), (1, 2)), (0, 2)))


class GrownNetsTest(unittest.TestCase):
    def test_they_are_greater(self):
        grown = grown_nets()
        self.assertTrue(any(net[0] > 7 for net in grown) and any(len(net[1]) > 9 for net in grown))
        for net in grown:
            self.assertTrue(net[0] > 7 or len(net[1]) > 9, net)
            self.assertLessEqual(len(slow_routes(net)), 24)

    def test_handed_in_to_all_others(self):
        asked = set()
        for net in grown_nets():
            for function, things in calls_with(net):
                first = function(*things)
                self.assertTrue(is_told_kind(first), function.__name__)
                self.assertEqual(function(*things), first, function.__name__)
                asked.add(function.__name__)
            for thing in THINGS:
                for function, things in calls_of_things(net, thing):
                    self.assertIs(type(function(*things)), bool)
                    asked.add(function.__name__)
        self.assertEqual(asked, ALL_NAMES - OF_NETS_ONLY)

    def test_nets_and_routes_by_the_words_of_the_document(self):
        for net in grown_nets():
            known = slow_routes(net)
            self.assertEqual(routes.routes(net), known)
            for route in known:
                self.assertIs(routes.is_route(net, route), True)
                self.assertIs(routes.is_route(net, route[::-1]), False)
                self.assertEqual(routes.ties_of(net, route), slow_ties_of(net, route))
            for knot in range(net[0]):
                self.assertEqual(nets.reached(net, (2, 0), knot), slow_reached(net, (2, 0), knot))
                wanted = tuple(other for other in range(net[0]) if tuple(sorted((knot, other))) in net[1])
                self.assertEqual(nets.beside(net, knot), wanted)

    def test_probes_and_plans_by_the_words_of_the_document(self):
        for net in grown_nets():
            known = slow_routes(net)
            self.assertEqual(showing.kinds(net), slow_twins(net, known))
            for broken in ((), (0,), (1, 0)):
                self.assertEqual(showing.shows(net, known, broken), slow_shows(net, known, broken))
                shown = slow_shows(net, known, broken)
                self.assertEqual(showing.suspects(net, known, shown), slow_suspects(net, known, shown))
            self.assertEqual(fewest.least_probes(net), slow_least_probes(net))
            self.assertEqual(fewest.least_seeing(net), slow_least_seeing(net))
            self.assertEqual(plans.cases(net), slow_cases(net))
            self.assertEqual(plans.least_deep(net), slow_least_deep(net))
            self.assertIs(plans.is_plan(net, plans.plan(net)), True)

    def test_cuts_and_seekers_by_the_words_of_the_document(self):
        for net in grown_nets():
            for one, other in rim_pairs(net):
                self.assertEqual(cutting.least_cut(net, one, other), slow_least_cut(net, one, other))
                self.assertEqual(cutting.barring(net, one, other), slow_barring(net, one, other))
                self.assertEqual(cutting.strength(net, one, other), slow_apart(net, one, other))
            seeker = Seeker(net)
            self.assertEqual((seeker.left(), seeker.best()), (slow_cases(net), slow_best(net, slow_cases(net))))
            for route in slow_routes(net):
                seeker.tell(route, False)
                self.assertEqual(seeker.left(), slow_left(net, ((route, False),)))
                self.assertEqual(seeker.best(), slow_best(net, seeker.left()))
                seeker.back()


class TogetherTest(unittest.TestCase):
    def test_a_seeker_has_left_what_suspects_tells(self):
        for net in (KITE, PARTED, CROSSED, FULL):
            known = routes.routes(net)
            for one, other in combinations(known, 2):
                for case in plans.cases(net):
                    broken = () if case is None else (case,)
                    shown = showing.shows(net, (one, other), broken)
                    seeker = Seeker(net)
                    seeker.tell(one, shown[0])
                    seeker.tell(other, shown[1])
                    may_be = showing.suspects(net, (one, other), shown)
                    self.assertEqual(seeker.left(), tuple(each for each in plans.cases(net) if each in may_be))

    def test_what_a_cut_breaks_is_cut_off(self):
        for net in small_nets(4):
            for one, other in permutations(net[2], 2):
                cut = cutting.least_cut(net, one, other)
                self.assertIn((min(one, other), max(one, other)), nets.cut_off(net, cut))

    def test_a_net_that_grew_and_shrank_is_written_as_before(self):
        for net in small_nets(3):
            text = texts.written(net)
            for tie in combinations(range(net[0]), 2):
                more = with_tie(net, tie)
                self.assertEqual(texts.read(texts.written(more)), more)
                if more != net:
                    self.assertEqual(texts.written(broken_off(more, nets.tie_between(more, *tie))), text)

    def test_a_plan_leaves_a_seeker_one_case(self):
        for net in (KITE, PARTED, CROSSED, FULL, HALF_BLIND):
            told = plans.plan(net)
            for case in plans.cases(net):
                broken = () if case is None else (case,)
                found, asked = plans.followed(net, told, broken)
                seeker = Seeker(net)
                for route in asked:
                    seeker.tell(route, showing.shows(net, (route,), broken)[0])
                self.assertEqual((seeker.left(), found), ((case,), case))


if __name__ == "__main__":
    unittest.main()
