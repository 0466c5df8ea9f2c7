"""[6.1]: ties that part, and routes that bar; [0.2] (f)."""

import unittest
from itertools import permutations, product

from probeties.cutting import barring, is_barring, is_cut, least_cut, shortest, strength
from probeties.errors import NoRoute
from probeties.routes import apart_routes
from samples import (
    ALL_SIX, BARE, CHAIN, CHAINS_APART, CROSSED, DUMBBELL, EIGHT, GREATER, HALF_BLIND, KITE, LONG, NETS, PARTED,
    RING, RINGS_APART, TIES_APART, TURNED, UNEVEN, WHEEL, five_knot_nets, have_no_tie_together, rim_pairs, slow_barring,
    slow_between, slow_least_cut, slow_reached, small_nets, subsets,
)

ZAG, LEFT, ZIG, RIGHT = (0, 1, 2, 3), (0, 1, 3), (0, 2, 1, 3), (0, 2, 3)
DEEP = [[[[[[[[[[0]]]]]]]]]]
NO_TUPLES = (None, True, False, 0, 1, -1, "", "01", "text", [], [0], [0, 1], [[]], DEEP)
# Two ways of one length, and one that is longer, from 0 to 5, and as many from 1 to 4.
SQUARES = (6, ((0, 1), (0, 2), (1, 3), (2, 3), (2, 4), (3, 5), (4, 5)), (0, 1, 4, 5))


def tried_nets():
    """Nets of which all choices of ties and of routes can be tried."""
    return list(small_nets(4)) + list(five_knot_nets())[::5] + list(NETS) + list(UNEVEN) + [SQUARES, WHEEL, EIGHT]


class IsCutTest(unittest.TestCase):
    def assert_none(self, net, one, other, *things):
        for thing in things:
            self.assertIs(is_cut(net, one, other, thing), False, (net, one, other, thing))
            self.assertIs(is_cut(net, other, one, thing), False, (net, other, one, thing))

    def test_told(self):
        for cut in ((0, 1), (3, 4), (0, 2, 4), (1, 2, 3), (0, 1, 2, 3, 4)):
            self.assertIs(is_cut(KITE, 0, 3, cut), True, cut)
            self.assertIs(is_cut(KITE, 3, 0, cut), True, cut)
        self.assert_none(KITE, 0, 3, (), (0,), (4,), (0, 3), (1, 4), (0, 4), (1, 3), (0, 2, 3))

    def test_those_not_reached_from_one_another(self):
        for cut in subsets(range(5)):
            self.assertIs(is_cut(PARTED, 5, 0, cut), True, cut)
        self.assertIs(is_cut(BARE, 0, 3, ()), True)

    def test_all_rising_tuples(self):
        for net in list(small_nets(4)) + list(five_knot_nets())[::23] + [PARTED, DUMBBELL]:
            for one, other in rim_pairs(net):
                for cut in subsets(range(len(net[1]))):
                    wanted = other not in slow_reached(net, cut, one)
                    self.assertIs(is_cut(net, one, other, cut), wanted, (net, one, other, cut))

    def test_all_rows_of_numbers(self):
        for size in range(4):
            for row in product(range(-1, 4), repeat=size):
                wanted = row in ((0, 1), (0, 2), (1, 2), (0, 1, 2))
                self.assertIs(is_cut(RING, 0, 1, row), wanted and 0 in row, row)

    def test_things_that_are_no_tuples(self):
        self.assert_none(KITE, 0, 3, *NO_TUPLES)
        # Here each rising tuple is one, and the form alone decides.
        self.assert_none(PARTED, 0, 3, *NO_TUPLES)

    def test_tuples_of_other_things(self):
        self.assert_none(
            PARTED, 1, 5, (None,), ("0",), ("",), ((),), ((0,),), ([0],), ([],), (0, None), (0, "1"), (0, (1,)),
            (0, [1]), ((0, 1),), (0, 1, "2"), (DEEP,), (DEEP, 0),
        )

    def test_truths_are_no_numbers(self):
        self.assert_none(PARTED, 0, 3, (True,), (False,), (False, True), (0, True), (False, 1), (0, 1, 2, True))
        self.assert_none(KITE, 0, 3, (False, True), (False, 1), (0, True))

    def test_numbers_beyond_out_of_order_or_said_twice(self):
        self.assert_none(PARTED, 0, 3, (5,), (-1,), (0, 5), (-1, 0))
        self.assert_none(PARTED, 0, 3, (1, 0), (4, 3), (0, 2, 1), (0, 0), (2, 2), (0, 1, 1))
        self.assert_none(KITE, 0, 3, (1, 0), (4, 3), (0, 0, 1), (0, 1, 1), (0, 1, 5), (-1, 0, 1), (4, 3, 2, 1, 0))
        self.assert_none(BARE, 0, 2, (0,))


class LeastCutTest(unittest.TestCase):
    def test_told(self):
        self.assertEqual(least_cut(CHAIN, 0, 2), (0,))
        self.assertEqual(least_cut(RING, 0, 1), (0, 1))
        self.assertEqual(least_cut(RING, 2, 1), (0, 2))
        self.assertEqual(least_cut(KITE, 0, 3), (0, 1))
        self.assertEqual(least_cut(KITE, 3, 0), (0, 1))
        self.assertEqual(least_cut(DUMBBELL, 4, 0), (3,))
        self.assertEqual(least_cut(CROSSED, 0, 6), (0, 1))
        self.assertEqual(least_cut(SQUARES, 1, 4), (0, 2))
        self.assertEqual(least_cut(LONG, 39, 20), (20,))

    def test_nothing_parts_those_that_are_apart(self):
        for net, one, other in ((BARE, 0, 3), (BARE, 3, 2), (PARTED, 0, 3), (PARTED, 5, 1), (HALF_BLIND, 0, 5)):
            self.assertEqual(least_cut(net, one, other), ())

    def test_the_least_of_all_choices_of_ties(self):
        for net in tried_nets():
            for one, other in rim_pairs(net):
                self.assertEqual(least_cut(net, one, other), slow_least_cut(net, one, other), (net, one, other))

    def test_greater_nets(self):
        self.assertEqual(least_cut(ALL_SIX, 1, 4), (0, 5, 6, 7, 8))
        self.assertEqual(least_cut(TURNED, 11, 0), slow_least_cut(TURNED, 11, 0))
        for net in GREATER + (TIES_APART, CHAINS_APART, RINGS_APART):
            for one, other in rim_pairs(net)[:40]:
                self.assertIs(is_cut(net, one, other, least_cut(net, one, other)), True)


class StrengthTest(unittest.TestCase):
    def test_told(self):
        self.assertEqual(strength(CHAIN, 2, 0), 1)
        self.assertEqual(strength(RING, 0, 2), 2)
        self.assertEqual(strength(KITE, 3, 0), 2)
        self.assertEqual(strength(DUMBBELL, 0, 4), 1)
        self.assertEqual(strength(CROSSED, 0, 6), 2)
        self.assertEqual(strength(PARTED, 0, 1), 2)
        self.assertEqual(strength(PARTED, 1, 3), 0)
        self.assertEqual(strength(BARE, 2, 0), 0)
        self.assertEqual(strength(ALL_SIX, 4, 1), 5)

    def test_as_many_ties_as_routes_with_no_tie_together(self):
        for net in tried_nets() + list(GREATER) + [TIES_APART, CHAINS_APART, RINGS_APART]:
            for one, other in rim_pairs(net)[:40]:
                many = strength(net, one, other)
                cut = least_cut(net, one, other)
                bar = barring(net, one, other)
                self.assertEqual((len(cut), len(bar)), (many, many), (net, one, other))
                self.assertEqual(apart_routes(net, one, other), many, (net, one, other))
                self.assertIs(is_cut(net, one, other, cut), True, (net, one, other))
                self.assertIs(is_barring(net, one, other, bar), True, (net, one, other))

    def test_the_fewest_that_part(self):
        for net in small_nets(4):
            for one, other in rim_pairs(net):
                self.assertEqual(strength(net, one, other), len(slow_least_cut(net, one, other)))


class IsBarringTest(unittest.TestCase):
    def assert_none(self, net, one, other, *things):
        for thing in things:
            self.assertIs(is_barring(net, one, other, thing), False, (net, one, other, thing))
            self.assertIs(is_barring(net, other, one, thing), False, (net, other, one, thing))

    def test_told(self):
        for chosen in ((), (ZAG,), (LEFT,), (ZIG,), (RIGHT,), (LEFT, RIGHT), (RIGHT, LEFT)):
            self.assertIs(is_barring(KITE, 0, 3, chosen), True, chosen)
            self.assertIs(is_barring(KITE, 3, 0, chosen), True, chosen)

    def test_none_at_all_bars_too(self):
        self.assertIs(is_barring(BARE, 0, 3, ()), True)
        self.assertIs(is_barring(PARTED, 5, 0, ()), True)

    def test_all_tuples_of_routes(self):
        for net in list(small_nets(4))[::7] + [KITE, PARTED, SQUARES, CROSSED, DUMBBELL]:
            for one, other in rim_pairs(net):
                known = slow_between(net, one, other)
                for size in range(4):
                    for chosen in permutations(known[:8], size):
                        wanted = have_no_tie_together(net, chosen)
                        self.assertIs(is_barring(net, one, other, chosen), wanted, (net, one, other, chosen))

    def test_routes_with_a_tie_together(self):
        self.assert_none(KITE, 0, 3, (ZAG, LEFT), (LEFT, ZAG), (ZAG, ZIG), (ZIG, ZAG), (ZIG, LEFT), (ZIG, RIGHT))
        self.assert_none(KITE, 0, 3, (RIGHT, ZAG), (LEFT, RIGHT, ZAG), (ZIG, LEFT, RIGHT))

    def test_a_route_said_twice(self):
        self.assert_none(KITE, 0, 3, (ZAG, ZAG), (LEFT, LEFT), (LEFT, RIGHT, LEFT))

    def test_routes_turned_about(self):
        self.assert_none(KITE, 0, 3, (LEFT[::-1],), (LEFT, RIGHT[::-1]), (ZAG[::-1],), (LEFT[::-1], RIGHT[::-1]))

    def test_routes_between_others(self):
        self.assert_none(RING, 0, 1, ((0, 2),), ((0, 1), (1, 2)), ((1, 2),), ((0, 1, 2),), ((1, 0, 2),))
        self.assert_none(PARTED, 0, 1, ((3, 4, 5),), ((0, 1), (3, 4, 5)))
        self.assert_none(PARTED, 0, 3, ((0, 1),), ((3, 4, 5),))

    def test_rows_that_are_no_routes(self):
        self.assert_none(
            KITE, 0, 3, (0, 1, 3), ((),), ((0,),), ((3,),), ((0, 3),), ((0, 1),), ((1, 3),), ((0, 1, 0, 2, 3),),
            ((0, 1, 4, 3),), ((0, -1, 3),), ((0, 1, 1, 3),), (LEFT, (0, 3)), (LEFT, ()), (LEFT, RIGHT, ()),
        )

    def test_things_that_are_no_tuples(self):
        for net in (KITE, CHAIN):
            self.assert_none(net, net[2][0], net[2][1], *NO_TUPLES, [LEFT, RIGHT], [(0, 1, 2)])

    def test_tuples_of_other_things(self):
        self.assert_none(
            KITE, 0, 3, (None,), (0,), (True,), (False,), ("",), ("013",), ([],), ([0, 1, 3],), (LEFT, [0, 2, 3]),
            (LEFT, None), (LEFT, 0), ((0, [1], 3),), ((0, (1,), 3),), ((0, None, 3),), ((0, "1", 3),), (DEEP,),
            ((DEEP,),), (LEFT, DEEP), ((LEFT, RIGHT),),
        )

    def test_truths_are_no_knots(self):
        self.assert_none(KITE, 0, 3, ((False, 1, 3),), ((0, True, 3),), (LEFT, (False, 2, 3)))
        self.assert_none(RING, 0, 1, ((False, True),), ((0, True),), ((False, 1),))


class BarringTest(unittest.TestCase):
    def test_told(self):
        self.assertEqual(barring(CHAIN, 2, 0), ((0, 1, 2),))
        self.assertEqual(barring(RING, 1, 0), ((0, 1), (0, 2, 1)))
        self.assertEqual(barring(KITE, 0, 3), (LEFT, RIGHT))
        self.assertEqual(barring(KITE, 3, 0), (LEFT, RIGHT))
        self.assertEqual(barring(DUMBBELL, 0, 4), ((0, 1, 2, 3, 4),))
        self.assertEqual(barring(CROSSED, 6, 0), ((0, 1, 4, 5, 6), (0, 3, 2, 6)))
        self.assertEqual(barring(SQUARES, 5, 0), ((0, 1, 3, 5), (0, 2, 4, 5)))

    def test_none(self):
        for net, one, other in ((BARE, 0, 3), (BARE, 3, 2), (PARTED, 0, 3), (PARTED, 5, 1), (HALF_BLIND, 0, 5)):
            self.assertEqual(barring(net, one, other), ())

    def test_the_least_of_all_choices_of_routes(self):
        for net in tried_nets():
            for one, other in rim_pairs(net):
                self.assertEqual(barring(net, one, other), slow_barring(net, one, other), (net, one, other))

    def test_greater_nets(self):
        turned = ((0, 3, 7, 6, 5, 9, 11), (0, 4, 1, 6, 11), (0, 5, 10, 11))
        self.assertEqual(barring(TURNED, 0, 11), turned)
        self.assertEqual(barring(TURNED, 11, 0), turned)
        self.assertEqual(barring(EIGHT, 7, 3), ((3, 2, 1, 0, 7), (3, 4, 5, 6, 7)))
        self.assertEqual(barring(LONG, 39, 20), (tuple(range(20, 40)),))
        self.assertEqual(len(barring(ALL_SIX, 1, 4)), 5)


class ShortestTest(unittest.TestCase):
    def test_told(self):
        self.assertEqual(shortest(CHAIN, 0, 2), (0, 1, 2))
        self.assertEqual(shortest(CHAIN, 2, 0), (0, 1, 2))
        self.assertEqual(shortest(RING, 2, 1), (1, 2))
        self.assertEqual(shortest(DUMBBELL, 4, 0), (0, 2, 3, 4))
        self.assertEqual(shortest(PARTED, 5, 3), (3, 4, 5))
        self.assertEqual(shortest(LONG, 20, 0), tuple(range(21)))

    def test_the_least_of_several_of_one_length(self):
        self.assertEqual(shortest(KITE, 0, 3), LEFT)
        self.assertEqual(shortest(KITE, 3, 0), LEFT)
        self.assertEqual(shortest(SQUARES, 0, 5), (0, 1, 3, 5))
        self.assertEqual(shortest(SQUARES, 5, 0), (0, 1, 3, 5))
        # From the greater knot on, the way by the least neighbours would be 4 2 0 1.
        self.assertEqual(shortest(SQUARES, 4, 1), (1, 0, 2, 4))
        self.assertEqual(shortest((5, ((0, 1), (0, 3), (1, 4), (2, 3), (2, 4)), (0, 4)), 4, 0), (0, 1, 4))
        # Least from the lesser knot, 0 1 5 6, though 6 4 2 0 has the lesser neighbour of 6.
        crossing = (7, ((0, 1), (0, 2), (1, 5), (2, 4), (4, 6), (5, 6)), (0, 6))
        self.assertEqual(shortest(crossing, 0, 6), (0, 1, 5, 6))
        self.assertEqual(shortest(crossing, 6, 0), (0, 1, 5, 6))

    def test_no_route(self):
        for net, one, other in ((BARE, 0, 3), (BARE, 3, 2), (PARTED, 0, 3), (PARTED, 5, 1), (HALF_BLIND, 0, 5)):
            for pair in ((one, other), (other, one)):
                with self.assertRaises(NoRoute) as caught:
                    shortest(net, *pair)
                self.assertIs(type(caught.exception), NoRoute)

    def test_the_least_of_all_routes(self):
        for net in tried_nets() + [ALL_SIX]:
            for one, other in rim_pairs(net):
                known = slow_between(net, one, other)
                if known:
                    wanted = min(known, key=lambda route: (len(route), route))
                    self.assertEqual(shortest(net, one, other), wanted, (net, one, other))
                else:
                    self.assertRaises(NoRoute, shortest, net, one, other)


if __name__ == "__main__":
    unittest.main()
