"""[4.1]: the fewest probes; [0.2] (d)."""

import unittest

from probeties.fewest import fewest, least_probes, least_seeing, needless, short
from probeties.routes import routes
from probeties.showing import is_enough, unseen
from samples import (
    ALL_SIX, BARE, CHAIN, CHAINS_APART, CROSSED, DUMBBELL, EIGHT, FULL, HALF_BLIND, KITE, LONE, LONG, NETS, ONE_RIM,
    PARTED, RIM_CHAIN, RING, RINGS_APART, TIES_APART, WHEEL, WITHOUT_ROUTES, nets_of_few_routes, slow_least_probes,
    slow_least_seeing, slow_routes, subsets, told_apart,
)

ZAG, LEFT, ZIG, RIGHT = (0, 1, 2, 3), (0, 1, 3), (0, 2, 1, 3), (0, 2, 3)


def slow_enough(net, probes):
    return told_apart(net, probes) == told_apart(net, slow_routes(net))


class LeastProbesTest(unittest.TestCase):
    def test_told(self):
        self.assertEqual(least_probes(CHAIN), ((0, 1, 2),))
        self.assertEqual(least_probes(KITE), (ZAG, LEFT, ZIG))
        self.assertEqual(least_probes(RING), ((0, 1, 2), (0, 2, 1)))
        self.assertEqual(least_probes(DUMBBELL), ((0, 1, 2, 3, 4), (0, 1, 2, 3, 5, 4), (0, 2, 3, 4)))
        self.assertEqual(least_probes(PARTED), routes(PARTED))
        self.assertEqual(least_probes(HALF_BLIND), ((2, 3),))
        self.assertEqual(least_probes(FULL), ((0, 1, 4, 2, 5, 6), (0, 2, 5, 6, 4), (0, 3, 5, 2, 4, 6)))

    def test_without_routes(self):
        for net in WITHOUT_ROUTES:
            self.assertEqual(least_probes(net), ())

    def test_the_first_of_the_smallest_choices(self):
        for net in nets_of_few_routes():
            self.assertEqual(least_probes(net), slow_least_probes(net), net)

    def test_enough_but_none_fewer_than_told_are(self):
        for net in (RING, KITE, DUMBBELL, PARTED, CROSSED):
            self.assertTrue(is_enough(net, least_probes(net)))
            for probes in subsets(routes(net)):
                if len(probes) < fewest(net):
                    self.assertFalse(is_enough(net, probes))

    def test_greater_nets(self):
        self.assertEqual(least_probes(TIES_APART), routes(TIES_APART))
        self.assertEqual(least_probes(LONG), (tuple(range(21)), tuple(range(40))))
        for net in (CHAINS_APART, RINGS_APART):
            self.assertTrue(is_enough(net, least_probes(net)))
        one = slow_least_probes(RIM_CHAIN)
        wanted = [tuple(knot + 3 * at for knot in route) for at in range(8) for route in one]
        self.assertEqual(least_probes(CHAINS_APART), tuple(wanted))

    def test_somewhat_more_routes(self):
        self.assertEqual(len(routes(WHEEL)), 32)
        self.assertEqual(least_probes(WHEEL), slow_least_probes(WHEEL))
        self.assertEqual(least_seeing(WHEEL), slow_least_seeing(WHEEL))


class FewestTest(unittest.TestCase):
    def test_told(self):
        self.assertEqual(fewest(LONE), 0)
        self.assertEqual(fewest(BARE), 0)
        self.assertEqual(fewest(ONE_RIM), 0)
        self.assertEqual(fewest(CHAIN), 1)
        self.assertEqual(fewest(HALF_BLIND), 1)
        self.assertEqual(fewest(RING), 2)
        self.assertEqual(fewest(KITE), 3)
        self.assertEqual(fewest(TIES_APART), 24)
        self.assertEqual(fewest(RINGS_APART), 12)

    def test_as_many_as_are_told(self):
        for net in nets_of_few_routes():
            self.assertEqual(fewest(net), len(least_probes(net)))


class LeastSeeingTest(unittest.TestCase):
    def test_told(self):
        self.assertEqual(least_seeing(CHAIN), ((0, 1, 2),))
        self.assertEqual(least_seeing(KITE), (ZAG, ZIG))
        self.assertEqual(least_seeing(RING), ((0, 1), (0, 2, 1)))
        self.assertEqual(least_seeing(DUMBBELL), ((0, 1, 2, 3, 4), (0, 2, 3, 5, 4)))
        self.assertEqual(least_seeing(PARTED), routes(PARTED))
        self.assertEqual(least_seeing(HALF_BLIND), ((2, 3),))
        self.assertEqual(least_seeing(FULL), ((0, 3, 5, 2, 4, 6), (4, 1, 0, 2, 5, 6)))
        self.assertEqual(least_seeing(LONG), (tuple(range(40)),))
        self.assertEqual(least_seeing(TIES_APART), routes(TIES_APART))
        self.assertEqual(least_seeing(CHAINS_APART), tuple((at, at + 1, at + 2) for at in range(0, 24, 3)))

    def test_without_routes(self):
        for net in WITHOUT_ROUTES:
            self.assertEqual(least_seeing(net), ())

    def test_the_first_of_the_smallest_choices(self):
        for net in nets_of_few_routes():
            self.assertEqual(least_seeing(net), slow_least_seeing(net), net)

    def test_none_fewer_go_by_all_ties(self):
        for net in (RING, KITE, DUMBBELL, PARTED, CROSSED):
            found = least_seeing(net)
            hidden = unseen(net, routes(net))
            self.assertEqual(unseen(net, found), hidden)
            for probes in subsets(routes(net)):
                if len(probes) < len(found):
                    self.assertNotEqual(unseen(net, probes), hidden)


class NeedlessTest(unittest.TestCase):
    def test_told(self):
        self.assertEqual(needless(KITE, (ZAG, LEFT, ZIG, RIGHT)), (0, 1, 2, 3))
        self.assertEqual(needless(KITE, (ZAG, LEFT, ZIG)), ())
        self.assertEqual(needless(KITE, (ZIG, LEFT, ZAG, ZIG)), (0, 3))
        self.assertEqual(needless(PARTED, ((3, 4, 5), (0, 1), (0, 2, 1), (0, 1))), (1, 3))
        self.assertEqual(needless(CHAIN, ((0, 1, 2), (0, 1, 2), (0, 1, 2))), (0, 1, 2))
        self.assertEqual(needless(HALF_BLIND, ((2, 3),)), ())

    def test_none(self):
        for net in NETS:
            self.assertEqual(needless(net, ()), ())

    def test_of_too_few_none_is_needless(self):
        self.assertEqual(needless(KITE, (ZAG, ZIG)), ())
        self.assertEqual(needless(KITE, (ZAG, ZAG, ZIG, ZIG)), ())

    def test_by_the_words_of_the_document(self):
        for net in (CHAIN, RING, KITE, DUMBBELL, PARTED, HALF_BLIND):
            known = slow_routes(net)
            for probes in [part[::-1] + part[:1] for part in subsets(known)] + list(subsets(known)):
                others = [probes[:at] + probes[at + 1:] for at in range(len(probes))]
                wanted = tuple(at for at, rest in enumerate(others) if slow_enough(net, rest))
                self.assertEqual(needless(net, probes), wanted)


class ShortTest(unittest.TestCase):
    def test_told(self):
        self.assertEqual(short(KITE, (ZAG, LEFT, ZIG, RIGHT)), (ZAG, LEFT, ZIG))
        self.assertEqual(short(KITE, (RIGHT, ZIG, LEFT, ZAG)), (RIGHT, ZIG, LEFT))
        self.assertEqual(short(KITE, (ZIG, LEFT, ZIG, ZAG, ZIG)), (ZIG, LEFT, ZAG))
        self.assertEqual(short(CHAIN, ((0, 1, 2), (0, 1, 2), (0, 1, 2))), ((0, 1, 2),))
        self.assertEqual(short(PARTED, ((3, 4, 5), (0, 2, 1), (0, 1), (0, 2, 1))), ((3, 4, 5), (0, 2, 1), (0, 1)))
        self.assertEqual(short(HALF_BLIND, ((2, 3), (2, 3))), ((2, 3),))

    def test_none(self):
        for net in WITHOUT_ROUTES:
            self.assertEqual(short(net, ()), ())

    def test_not_always_as_few_as_can_be(self):
        self.assertEqual(short(RING, ((0, 1), (0, 2), (1, 2), (0, 1, 2), (0, 2, 1))), ((0, 1), (0, 2), (1, 2)))

    def test_by_the_words_of_the_document(self):
        for net in (CHAIN, RING, KITE, DUMBBELL, PARTED, HALF_BLIND, CROSSED):
            known = slow_routes(net)
            for probes in [part[::-1] + part[1:] for part in subsets(known)] + list(subsets(known)):
                if slow_enough(net, probes):
                    self.assertEqual(short(net, probes), self.slow_short(net, probes))

    def slow_short(self, net, probes):
        kept = list(enumerate(probes))
        for each in list(enumerate(probes))[::-1]:
            others = [other for other in kept if other != each]
            if slow_enough(net, tuple(probe for at, probe in others)):
                kept = others
        return tuple(probe for at, probe in kept)

    def test_what_is_left_is_enough_and_none_of_it_is_needless(self):
        for net in NETS + (EIGHT, ALL_SIX, LONG, CHAINS_APART):
            for probes in (routes(net), routes(net)[::-1]):
                left = short(net, probes)
                self.assertTrue(is_enough(net, left))
                self.assertEqual(needless(net, left), ())


if __name__ == "__main__":
    unittest.main()
