"""[0.4] and [1.1]: nets."""

import unittest
from itertools import combinations, permutations

from probeties.errors import NoRoute, NoStep, NoSuspect, NoText, NoTie, ProbeError
from probeties.nets import beside, cut_off, is_net, parting_ties, reached, tie_between
from samples import (
    ALL_SIX, BARE, CHAIN, DUMBBELL, EIGHT, FULL, GREATER, KITE, LONE, LONG, NETS, PARTED, RING, WHEEL,
    five_knot_nets, slow_reached, small_nets, subsets,
)


class IsNetTest(unittest.TestCase):
    def assert_none(self, *things):
        for thing in things:
            self.assertIs(is_net(thing), False, thing)

    def test_all_small_nets(self):
        for net in small_nets(4):
            self.assertIs(is_net(net), True, net)

    def test_each_number_of_knots_and_ties(self):
        for many in range(1, 8):
            pairs = tuple(combinations(range(many), 2))
            for size in range(min(9, len(pairs)) + 1):
                for ties in (pairs[:size], pairs[len(pairs) - size:]):
                    for rim in ((0,), (many - 1,), tuple(range(many))):
                        self.assertIs(is_net((many, ties, rim)), True, (many, ties, rim))

    def test_samples(self):
        for net in NETS:
            self.assertIs(is_net(net), True, net)
        self.assertEqual(len(FULL[1]), 9)

    def test_too_many(self):
        self.assert_none(*GREATER)
        pairs = tuple(combinations(range(7), 2))
        self.assert_none((7, pairs[:10], (0,)), (7, pairs[11:], (0,)), (5, tuple(combinations(range(5), 2)), (0,)))
        self.assert_none((8, (), (0,)), (8, ((0, 1),), (0, 1)), (9, (), (0,)), (10 ** 30, (), (0,)))

    def test_no_knots(self):
        self.assert_none((0, (), ()), (0, (), (0,)), (-1, (), (0,)), (-1, (), (-2,)), (-3, (), ()))

    def test_no_rim(self):
        self.assert_none((1, (), ()), (3, ((0, 1),), ()), (3, ((0, 1),), None), (3, ((0, 1),), 0))

    def test_out_of_order(self):
        self.assert_none((3, ((0, 2), (0, 1)), (0,)), (3, ((1, 2), (0, 1)), (0,)), (3, ((0, 1), (1, 2), (0, 2)), (0,)))
        self.assert_none((3, ((0, 1),), (1, 0)), (3, ((0, 1),), (0, 2, 1)), (3, (), (2, 0, 1)))

    def test_said_twice(self):
        self.assert_none((3, ((0, 1), (0, 1)), (0,)), (3, ((0, 1), (0, 2), (0, 2)), (0,)))
        self.assert_none((3, (), (0, 0)), (3, (), (0, 1, 1)), (3, (), (2, 2)))

    def test_ties_the_wrong_way(self):
        self.assert_none((3, ((1, 0),), (0,)), (3, ((0, 1), (2, 1)), (0,)), (3, ((0, 1), (1, 0)), (0,)))
        self.assert_none((3, ((0, 0),), (0,)), (3, ((0, 1), (1, 1)), (0,)), (3, ((2, 2),), (0,)))

    def test_knots_beyond(self):
        self.assert_none((3, ((0, 3),), (0,)), (3, ((3, 4),), (0,)), (1, ((0, 1),), (0,)), (3, ((-1, 0),), (0,)))
        self.assert_none((3, ((-2, -1),), (0,)), (3, (), (3,)), (3, (), (0, 3)), (3, (), (-1, 0)), (3, (), (-1,)))

    def test_truths_for_numbers(self):
        self.assert_none((True, (), (0,)), (False, (), (0,)), (3, ((False, 1),), (0,)), (3, ((0, True),), (0,)))
        self.assert_none((3, ((True, 2),), (0,)), (3, (), (False,)), (3, (), (True,)), (3, (), (0, True)))
        self.assert_none((3, (), (False, 1)), (3, True, (0,)), (3, (), True), (3, (True,), (0,)), (3, False, (0,)))

    def test_lists_for_tuples(self):
        self.assert_none([3, ((0, 1),), (0,)], (3, [(0, 1)], (0,)), (3, ([0, 1],), (0,)), (3, ((0, 1),), [0]))
        self.assert_none((3, ((0, 1), [1, 2]), (0,)), (3, [], (0,)), (3, (), []), [3, [[0, 1]], [0]], [])
        self.assert_none(([3], (), (0,)), (3, (), ([0],)), (3, (([0], 1),), (0,)), (3, ((0, [1]),), (0,)))

    def test_parts_left_out_or_too_many(self):
        self.assert_none((), (3,), (3, ()), (3, (0,)), ((), (0,)), (3, (), (0,), ()), (3, (), (0,), None))
        self.assert_none((3, ((0,),), (0,)), (3, ((),), (0,)), (3, ((0, 1, 2),), (0,)), (3, (0, 1), (0,)))
        self.assert_none((3, (), ((0,),)), (3, ((0, 1), 2), (0,)), (3, ((0, 1), (1,)), (0,)))

    def test_other_things(self):
        self.assert_none(None, True, False, 0, 1, 3, -1, "", "net", "3;01;0", "abc", [], [None], (None,) * 3)
        self.assert_none((None, (), (0,)), ("3", (), (0,)), (3, None, (0,)), (3, "", (0,)), (3, "01", (0,)), (3, 0, (0,)))
        self.assert_none((3, (None,), (0,)), (3, ("01",), (0,)), (3, (("0", "1"),), (0,)), (3, ((0, None),), (0,)))
        self.assert_none((3, ((None, 1),), (0,)), (3, ((0, "1"),), (0,)), (3, (), "0"), (3, (), ("0",)), (3, (), (None,)))
        self.assert_none((3, (), (0, "1")), (3, (), (0, None)), (3, ((0, 1), None), (0,)), (3, ((0, 1), "12"), (0,)))
        self.assert_none((((3,),), (), (0,)), (3, (((0, 1), (1, 2)),), (0,)), (3, ((0, (1,)),), (0,)), (3, (), ((0, 1),)))

    def test_deep_things(self):
        for wrap in (lambda thing: (thing,), lambda thing: [thing], lambda thing: (thing, thing, thing)):
            deep = None
            for turn in range(10):
                deep = wrap(deep)
                self.assert_none(deep, (deep, (), (0,)), (3, deep, (0,)), (3, (deep,), (0,)), (3, (), deep))
                self.assert_none((3, ((0, deep),), (0,)), (3, (), (0, deep)))


class TieBetweenTest(unittest.TestCase):
    def test_all_pairs_either_way_round(self):
        for net in NETS + GREATER:
            for one, other in permutations(range(net[0]), 2):
                pair = (min(one, other), max(one, other))
                if pair in net[1]:
                    self.assertEqual(net[1][tie_between(net, one, other)], pair)
                else:
                    with self.assertRaises(NoTie):
                        tie_between(net, one, other)

    def test_numbers(self):
        self.assertEqual([tie_between(KITE, *pair) for pair in KITE[1]], [0, 1, 2, 3, 4])
        self.assertEqual(tie_between(KITE, 3, 1), 3)
        self.assertEqual(tie_between(WHEEL, 5, 4), 9)
        self.assertIs(type(tie_between(KITE, 1, 0)), int)

    def test_the_refusal(self):
        for net, one, other in ((KITE, 0, 3), (KITE, 3, 0), (BARE, 2, 1), (PARTED, 2, 3)):
            with self.assertRaises(NoTie) as caught:
                tie_between(net, one, other)
            self.assertIsInstance(caught.exception, ProbeError)
            self.assertIsInstance(caught.exception, ValueError)
            self.assertNotIsInstance(caught.exception, (NoRoute, NoSuspect, NoStep, NoText))


class BesideTest(unittest.TestCase):
    def test_told(self):
        self.assertEqual(beside(LONE, 0), ())
        self.assertEqual([beside(BARE, knot) for knot in range(4)], [()] * 4)
        self.assertEqual([beside(CHAIN, knot) for knot in range(3)], [(1,), (0, 2), (1,)])
        self.assertEqual([beside(KITE, knot) for knot in range(4)], [(1, 2), (0, 2, 3), (0, 1, 3), (1, 2)])
        self.assertEqual(beside(DUMBBELL, 3), (2, 4, 5))
        self.assertEqual(beside(ALL_SIX, 3), (0, 1, 2, 4, 5))
        self.assertEqual(beside(EIGHT, 7), (0, 6))

    def test_all_small_nets(self):
        for net in small_nets(4):
            for knot in range(net[0]):
                told = beside(net, knot)
                ends = [set(tie) - {knot} for tie in net[1] if knot in tie]
                self.assertEqual(told, tuple(sorted(end.pop() for end in ends)))


class ReachedTest(unittest.TestCase):
    def test_none_broken(self):
        self.assertEqual(reached(LONE, (), 0), (0,))
        self.assertEqual(reached(BARE, (), 2), (2,))
        self.assertEqual(reached(CHAIN, (), 2), (0, 1, 2))
        self.assertEqual([reached(PARTED, (), knot) for knot in (0, 2, 4)], [(0, 1, 2), (0, 1, 2), (3, 4, 5)])
        self.assertEqual(reached(LONG, (), 20), tuple(range(40)))

    def test_some_broken(self):
        self.assertEqual(reached(CHAIN, (0,), 0), (0,))
        self.assertEqual(reached(CHAIN, (0,), 1), (1, 2))
        self.assertEqual(reached(RING, (1,), 2), (0, 1, 2))
        self.assertEqual(reached(DUMBBELL, (3,), 0), (0, 1, 2))
        self.assertEqual(reached(DUMBBELL, (6, 4), 0), (0, 1, 2, 3, 5, 6))
        self.assertEqual(reached(LONG, (10, 30), 20), tuple(range(11, 31)))
        self.assertEqual(reached(WHEEL, (9, 4, 0), 1), tuple(range(6)))

    def test_all_broken(self):
        for net in NETS + GREATER:
            for knot in range(net[0]):
                self.assertEqual(reached(net, tuple(range(len(net[1]))), knot), (knot,))

    def test_any_order(self):
        for broken in subsets(range(5)):
            for order in permutations(broken):
                self.assertEqual(reached(KITE, order, 0), slow_reached(KITE, broken, 0))

    def test_all_small_nets(self):
        for net in small_nets(4):
            if len(net[2]) == 1:
                for broken in subsets(range(len(net[1]))):
                    self.assertEqual(reached(net, broken, net[2][0]), slow_reached(net, broken, net[2][0]))

    def test_greater_samples(self):
        for net in NETS + GREATER[:3]:
            for broken in list(combinations(range(len(net[1])), 3)) + [(), (0,)]:
                for knot in range(net[0]):
                    self.assertEqual(reached(net, broken[::-1], knot), slow_reached(net, broken, knot))


class CutOffTest(unittest.TestCase):
    def test_none_broken(self):
        self.assertEqual(cut_off(LONE, ()), ())
        self.assertEqual(cut_off(BARE, ()), ((0, 2), (0, 3), (2, 3)))
        self.assertEqual(cut_off(CHAIN, ()), ())
        self.assertEqual(cut_off(PARTED, ()), ((0, 3), (0, 5), (1, 3), (1, 5)))

    def test_some_broken(self):
        self.assertEqual(cut_off(CHAIN, (1,)), ((0, 2),))
        self.assertEqual(cut_off(RING, (0,)), ())
        self.assertEqual(cut_off(RING, (2, 0)), ((0, 1), (1, 2)))
        self.assertEqual(cut_off(RING, (2, 0, 1)), ((0, 1), (0, 2), (1, 2)))
        self.assertEqual(cut_off(DUMBBELL, (3,)), ((0, 4),))
        self.assertEqual(cut_off(DUMBBELL, (7, 0)), ())
        self.assertEqual(cut_off(LONG, (25,)), ((0, 39), (20, 39)))

    def test_all_small_nets(self):
        for net in small_nets(4):
            for broken in subsets(range(len(net[1])))[::3]:
                wanted = [
                    (one, other) for one, other in combinations(net[2], 2)
                    if other not in slow_reached(net, broken, one)
                ]
                self.assertEqual(cut_off(net, broken[::-1]), tuple(wanted))


class PartingTiesTest(unittest.TestCase):
    def test_told(self):
        self.assertEqual(parting_ties(LONE), ())
        self.assertEqual(parting_ties(BARE), ())
        self.assertEqual(parting_ties(CHAIN), (0, 1))
        self.assertEqual(parting_ties(RING), ())
        self.assertEqual(parting_ties(DUMBBELL), (3, 7))
        self.assertEqual(parting_ties(PARTED), (3, 4))
        self.assertEqual(parting_ties(LONG), tuple(range(39)))
        self.assertEqual(parting_ties(WHEEL), ())

    def test_all_nets_of_five_knots(self):
        for net in five_knot_nets():
            wanted = [
                at for at, (one, other) in enumerate(net[1]) if other not in slow_reached(net, (at,), one)
            ]
            self.assertEqual(parting_ties(net), tuple(wanted))


if __name__ == "__main__":
    unittest.main()
