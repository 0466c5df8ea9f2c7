"""[0.5] and [2.1]: routes; [0.2] (f)."""

import unittest
from itertools import combinations, permutations

from probeties.routes import apart_routes, blind, is_route, routes, steps_with, through, ties_of
from samples import (
    ALL_SIX, BARE, CHAIN, CROSSED, DUMBBELL, EIGHT, GREATER, KITE, LONE, LONG, NETS, ONE_RIM, PARTED, RING, TURNED,
    WHEEL, fewest_to_part, five_knot_nets, slow_apart, slow_routes, slow_ties_of, small_nets,
)


class RoutesTest(unittest.TestCase):
    def test_none(self):
        self.assertEqual(routes(LONE), ())
        self.assertEqual(routes(BARE), ())
        self.assertEqual(routes(ONE_RIM), ())

    def test_told(self):
        self.assertEqual(routes(CHAIN), ((0, 1, 2),))
        self.assertEqual(routes(RING), ((0, 1), (0, 1, 2), (0, 2), (0, 2, 1), (1, 0, 2), (1, 2)))
        self.assertEqual(routes(KITE), ((0, 1, 2, 3), (0, 1, 3), (0, 2, 1, 3), (0, 2, 3)))
        self.assertEqual(routes(PARTED), ((0, 1), (0, 2, 1), (3, 4, 5)))
        self.assertEqual(routes(EIGHT), (
            (0, 1, 2, 3), (0, 1, 2, 3, 4, 5, 6, 7), (0, 7), (0, 7, 6, 5, 4, 3), (3, 2, 1, 0, 7), (3, 4, 5, 6, 7),
        ))
        self.assertEqual(routes(LONG), (tuple(range(21)), tuple(range(40)), tuple(range(20, 40))))

    def test_by_the_words_of_the_document(self):
        for net in small_nets(4):
            self.assertEqual(routes(net), slow_routes(net))
        for net in NETS + (WHEEL, ALL_SIX):
            self.assertEqual(routes(net), slow_routes(net))

    def test_tuples_of_tuples(self):
        for net in NETS + GREATER:
            self.assertIs(type(routes(net)), tuple)
            self.assertTrue(all(type(route) is tuple for route in routes(net)))


class IsRouteTest(unittest.TestCase):
    def assert_none(self, net, *things):
        for thing in things:
            self.assertIs(is_route(net, thing), False, (net, thing))

    def test_all_routes(self):
        for net in NETS + GREATER:
            for route in routes(net):
                self.assertIs(is_route(net, route), True, (net, route))

    def test_all_rows_of_knots(self):
        for net in (LONE, BARE, CHAIN, RING, KITE, ONE_RIM, PARTED):
            known = slow_routes(net)
            rows = [row for size in range(6) for row in permutations(range(net[0]), size)]
            for row in rows:
                self.assertIs(is_route(net, row), row in known, (net, row))

    def test_a_knot_exchanged_left_out_or_said_twice(self):
        for net in (RING, KITE, DUMBBELL, CROSSED, WHEEL):
            known = slow_routes(net)
            for route in known:
                for at in range(len(route)):
                    twice = route[:at + 1] + route[at:]
                    self.assert_none(net, twice, route + (route[at],), route[:at] + (net[0],) + route[at + 1:])
                    short = route[:at] + route[at + 1:]
                    self.assertIs(is_route(net, short), short in known, (net, short))
                    for knot in range(-1, net[0] + 1):
                        other = route[:at] + (knot,) + route[at + 1:]
                        self.assertIs(is_route(net, other), other in known, (net, other))

    def test_a_way_over_a_knot_twice(self):
        self.assert_none(KITE, (0, 1, 2, 0, 1, 3), (0, 1, 0, 2, 3), (0, 2, 1, 0, 2, 3), (0, 1, 3, 2, 3))

    def test_turned_about(self):
        for net in NETS + GREATER:
            self.assert_none(net, *[route[::-1] for route in routes(net)])

    def test_ends_off_the_rim(self):
        self.assert_none(KITE, (0, 1), (1, 3), (0, 1, 2), (1, 2), (2, 3), (1, 2, 3))
        self.assert_none(ONE_RIM, (2, 3), (0, 2), (0, 1, 2))

    def test_no_tie_between_neighbours(self):
        self.assert_none(KITE, (0, 3))
        self.assert_none(BARE, (0, 2), (0, 3), (2, 3), (0, 2, 3))
        self.assert_none(PARTED, (0, 3), (0, 1, 3), (3, 5), (1, 3, 4, 5))

    def test_truths_for_knots(self):
        self.assert_none(RING, (False, 1), (0, True), (False, True), (0, True, 2), (False, 2), (True, 2), (True, 0, 2))
        self.assert_none(KITE, (False, 1, 3), (0, True, 3), (0, 2, True, 3))

    def test_lists(self):
        for net in NETS:
            for route in routes(net):
                self.assert_none(net, list(route), [route], (route,), tuple([knot] for knot in route))

    def test_rows_too_short(self):
        for net in NETS + GREATER:
            self.assert_none(net, (), *[(knot,) for knot in range(net[0])])
            self.assert_none(net, [], *[(knot, knot) for knot in range(net[0])])

    def test_other_things(self):
        for net in (LONE, RING, KITE, WHEEL):
            self.assert_none(net, None, True, False, 0, 1, -1, 13, "", "01", "0", "013", (None,), (None, None))
            self.assert_none(net, ("0", "1"), (0, "1"), (0, None), (None, 1), (0, (1,)), ((0, 1),), ((0,), (1,)))
            self.assert_none(net, (0, 1, None), (0, [1], 2), (0, "1", 3), ([], []), ((), ()), (0, 10 ** 30), (-1, 0))
            deep = 0
            for turn in range(10):
                deep = (deep, [deep])
                self.assert_none(net, deep, [deep], (deep, deep), (0, deep), (0, 1, deep))


class TiesOfTest(unittest.TestCase):
    def test_told(self):
        self.assertEqual(ties_of(CHAIN, (0, 1, 2)), (0, 1))
        self.assertEqual(ties_of(RING, (1, 0, 2)), (0, 1))
        self.assertEqual(ties_of(RING, (1, 2)), (2,))
        self.assertEqual(ties_of(KITE, (0, 2, 1, 3)), (1, 2, 3))
        self.assertEqual(ties_of(KITE, (0, 1, 2, 3)), (0, 2, 4))
        self.assertEqual(ties_of(CROSSED, (0, 3, 2, 1, 4, 5, 6)), (1, 2, 3, 4, 6, 7))
        self.assertEqual(ties_of(EIGHT, (3, 2, 1, 0, 7)), (0, 1, 2, 3))

    def test_all_routes(self):
        for net in NETS + GREATER:
            for route in routes(net):
                self.assertEqual(ties_of(net, route), slow_ties_of(net, route))


class ThroughTest(unittest.TestCase):
    def test_told(self):
        self.assertEqual(through(CHAIN, 1), ((0, 1, 2),))
        self.assertEqual(through(RING, 0), ((0, 1), (0, 1, 2), (1, 0, 2)))
        self.assertEqual(through(KITE, 2), ((0, 1, 2, 3), (0, 2, 1, 3)))
        self.assertEqual(through(DUMBBELL, 7), ())
        self.assertEqual(through(ONE_RIM, 0), ())
        self.assertEqual(through(EIGHT, 1), ((0, 7), (0, 7, 6, 5, 4, 3), (3, 2, 1, 0, 7)))

    def test_all_ties(self):
        for net in NETS + (WHEEL, ALL_SIX):
            known = slow_routes(net)
            for tie in range(len(net[1])):
                wanted = tuple(route for route in known if tie in slow_ties_of(net, route))
                self.assertEqual(through(net, tie), wanted)


class BlindTest(unittest.TestCase):
    def test_told(self):
        self.assertEqual(blind(LONE), ())
        self.assertEqual(blind(BARE), ())
        self.assertEqual(blind(ONE_RIM), (0, 1, 2, 3, 4))
        self.assertEqual(blind(KITE), ())
        self.assertEqual(blind(DUMBBELL), (7,))
        self.assertEqual(blind((4, ((0, 1), (2, 3)), (0, 2, 3))), (0,))
        self.assertEqual(blind(PARTED), ())
        self.assertEqual(blind(EIGHT), ())
        self.assertEqual(blind(LONG[:2] + ((3, 37),)), (0, 1, 2, 37, 38))

    def test_all_small_nets(self):
        for net in small_nets(4):
            had = [tie for route in slow_routes(net) for tie in slow_ties_of(net, route)]
            self.assertEqual(blind(net), tuple(tie for tie in range(len(net[1])) if tie not in had))


class ApartRoutesTest(unittest.TestCase):
    def assert_apart(self, net, one, other, many):
        self.assertEqual(apart_routes(net, one, other), many)
        self.assertEqual(apart_routes(net, other, one), many)

    def test_none(self):
        self.assert_apart(BARE, 0, 2, 0)
        self.assert_apart(PARTED, 0, 3, 0)
        self.assert_apart(PARTED, 1, 5, 0)

    def test_one(self):
        self.assert_apart(CHAIN, 0, 2, 1)
        self.assert_apart(DUMBBELL, 0, 4, 1)
        self.assert_apart(LONG, 0, 39, 1)
        self.assert_apart((2, ((0, 1),), (0, 1)), 0, 1, 1)

    def test_several(self):
        self.assert_apart(RING, 0, 1, 2)
        self.assert_apart(PARTED, 0, 1, 2)
        self.assert_apart(EIGHT, 0, 3, 2)
        self.assert_apart(WHEEL, 1, 3, 3)
        self.assert_apart(WHEEL, 0, 3, 3)
        self.assert_apart(ALL_SIX, 1, 4, 5)

    def test_a_choice_must_be_made(self):
        # The least route of the kite, (0, 1, 2, 3), has a tie together with each of the others.
        self.assert_apart(KITE, 0, 3, 2)
        self.assert_apart(CROSSED, 0, 6, 2)
        self.assert_apart(TURNED, 0, 11, 3)

    def test_ways_against_each_other_leave_the_tie(self):
        self.assertEqual(steps_with([(0, 1), (1, 2), (2, 3)], (0, 2, 1, 3)), [(0, 1), (2, 3), (0, 2), (1, 3)])

    def test_knots_together_are_no_ties_together(self):
        bow = (5, ((0, 1), (0, 2), (1, 2), (2, 3), (2, 4), (3, 4)), (0, 4))
        self.assert_apart(bow, 0, 4, 2)

    def test_routes_go_over_other_rim_knots(self):
        self.assert_apart(CHAIN[:2] + ((0, 1, 2),), 0, 2, 1)
        self.assert_apart(KITE[:2] + ((0, 1, 2, 3),), 0, 3, 2)

    def test_as_many_as_can_be_and_as_many_ties_must_break(self):
        nets = [net for net in small_nets(4) if len(net[2]) > 1] + list(five_knot_nets())
        for net in nets + [KITE, DUMBBELL, PARTED, CROSSED]:
            for one, other in list(combinations(net[2], 2))[:2]:
                many = slow_apart(net, one, other)
                self.assert_apart(net, one, other, many)
                self.assertEqual(fewest_to_part(net, one, other), many)


if __name__ == "__main__":
    unittest.main()
