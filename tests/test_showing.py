"""[3.1] and [3.2]: what probes show; [0.2] (a), (b) and (c)."""

import unittest
from itertools import combinations, product

from probeties.errors import NoSuspect, ProbeError
from probeties.routes import blind, routes
from probeties.showing import (
    failing, is_enough, kinds, shows, suspect_pairs, suspects, the_one, twins, unseen, untold_pairs,
)
from samples import (
    ALL_SIX, BARE, CHAIN, CROSSED, DUMBBELL, EIGHT, HALF_BLIND, KITE, LONE, LONG, NETS, ONE_RIM, PARTED, RING, WHEEL,
    WITHOUT_ROUTES, slow_routes, slow_shows, slow_suspects, slow_ties_of, slow_twins, small_nets, subsets, told_apart,
)

# The ties of the kite's routes, in their order: (0, 2, 4), (0, 3), (1, 2, 3), (1, 4).
ZAG, LEFT, ZIG, RIGHT = (0, 1, 2, 3), (0, 1, 3), (0, 2, 1, 3), (0, 2, 3)


def some_probes(net):
    """No probes, each alone, all of them, all turned about and once more, and some said twice."""
    known = slow_routes(net)
    yield ()
    yield from [(route,) for route in known[:4]]
    yield known
    yield known[::-1] + known
    yield known[1:3] + known[:2]
    yield known[-1:] * 3


def nets_with_probes():
    nets = list(small_nets(3)) + list(small_nets(4))[60::9] + list(NETS)
    for net in nets:
        for probes in some_probes(net):
            yield net, probes


class ShowsTest(unittest.TestCase):
    def test_told(self):
        self.assertEqual(shows(KITE, (ZAG, LEFT, ZIG, RIGHT), (2,)), (False, True, False, True))
        self.assertEqual(shows(KITE, (RIGHT, ZIG), (3,)), (True, False))
        self.assertEqual(shows(KITE, (ZIG, RIGHT), (3,)), (False, True))
        self.assertEqual(shows(KITE, (LEFT, LEFT, ZIG, LEFT), (0,)), (False, False, True, False))
        self.assertEqual(shows(KITE, (ZAG, LEFT, ZIG, RIGHT), ()), (True, True, True, True))
        self.assertEqual(shows(KITE, (ZAG, LEFT, ZIG, RIGHT), (4, 1)), (False, True, False, False))
        self.assertEqual(shows(KITE, (ZAG, LEFT, ZIG, RIGHT), (4, 3, 2, 1, 0)), (False, False, False, False))
        self.assertEqual(shows(DUMBBELL, routes(DUMBBELL), (7,)), (True, True, True, True))
        self.assertEqual(shows(LONG, routes(LONG), (19,)), (False, False, True))

    def test_no_probes(self):
        for net in NETS:
            self.assertEqual(shows(net, (), ()), ())
            self.assertEqual(shows(net, (), tuple(range(len(net[1])))), ())

    def test_whole_just_if_no_tie_is_broken(self):
        for net in (CHAIN, RING, KITE, PARTED, HALF_BLIND):
            for probes in some_probes(net):
                for broken in subsets(range(len(net[1]))):
                    told = shows(net, probes, broken[::-1])
                    self.assertEqual(told, slow_shows(net, probes, broken))
                    self.assertTrue(all(type(truth) is bool for truth in told))


class FailingTest(unittest.TestCase):
    def test_told(self):
        self.assertEqual(failing(KITE, (ZAG, LEFT, ZIG, RIGHT)), ((0, 1), (2, 3), (0, 2), (1, 2), (0, 3)))
        self.assertEqual(failing(KITE, (RIGHT, LEFT, RIGHT)), ((1,), (0, 2), (), (1,), (0, 2)))
        self.assertEqual(failing(HALF_BLIND, ((2, 3), (2, 3))), ((), (0, 1), ()))
        self.assertEqual(failing(LONE, ()), ())
        self.assertEqual(failing(BARE, ()), ())
        self.assertEqual(failing(ONE_RIM, ()), ((), (), (), (), ()))

    def test_by_the_words_of_the_document(self):
        for net, probes in nets_with_probes():
            rows = [slow_ties_of(net, probe) for probe in probes]
            wanted = [tuple(at for at, row in enumerate(rows) if tie in row) for tie in range(len(net[1]))]
            self.assertEqual(failing(net, probes), tuple(wanted))


class UnseenTest(unittest.TestCase):
    def test_told(self):
        self.assertEqual(unseen(KITE, ()), (0, 1, 2, 3, 4))
        self.assertEqual(unseen(KITE, (RIGHT, RIGHT)), (0, 2, 3))
        self.assertEqual(unseen(KITE, (RIGHT, LEFT)), (2,))
        self.assertEqual(unseen(KITE, (ZIG, ZAG)), ())
        self.assertEqual(unseen(DUMBBELL, routes(DUMBBELL)), (7,))
        self.assertEqual(unseen(LONE, ()), ())
        self.assertEqual(unseen(BARE, ()), ())

    def test_by_the_words_of_the_document(self):
        for net, probes in nets_with_probes():
            had = [tie for probe in probes for tie in slow_ties_of(net, probe)]
            self.assertEqual(unseen(net, probes), tuple(tie for tie in range(len(net[1])) if tie not in had))

    def test_all_routes_leave_the_blind_ones(self):
        for net in NETS + (WHEEL, EIGHT, ALL_SIX, LONG):
            self.assertEqual(unseen(net, routes(net)), blind(net))


class TwinsTest(unittest.TestCase):
    def test_told(self):
        self.assertEqual(twins(KITE, ()), ((0, 1, 2, 3, 4),))
        self.assertEqual(twins(KITE, (ZIG,)), ((0, 4), (1, 2, 3)))
        self.assertEqual(twins(KITE, (ZIG, ZIG)), ((0, 4), (1, 2, 3)))
        self.assertEqual(twins(KITE, (ZIG, LEFT)), ((0,), (1, 2), (3,), (4,)))
        self.assertEqual(twins(KITE, (LEFT, ZIG, LEFT)), ((0,), (1, 2), (3,), (4,)))
        self.assertEqual(twins(KITE, (RIGHT, LEFT)), ((0, 3), (1, 4), (2,)))
        self.assertEqual(twins(LONE, ()), ())
        self.assertEqual(twins(BARE, ()), ())
        self.assertEqual(twins(ONE_RIM, ()), ((0, 1, 2, 3, 4),))
        self.assertEqual(twins(HALF_BLIND, ()), ((0, 1, 2),))
        self.assertEqual(twins(HALF_BLIND, ((2, 3),)), ((0, 2), (1,)))

    def test_those_that_show_the_same_are_together(self):
        for net, probes in nets_with_probes():
            self.assertEqual(twins(net, probes), slow_twins(net, probes))


class KindsTest(unittest.TestCase):
    def test_told(self):
        self.assertEqual(kinds(LONE), ())
        self.assertEqual(kinds(BARE), ())
        self.assertEqual(kinds(ONE_RIM), ((0, 1, 2, 3, 4),))
        self.assertEqual(kinds(CHAIN), ((0, 1),))
        self.assertEqual(kinds(RING), ((0,), (1,), (2,)))
        self.assertEqual(kinds(KITE), ((0,), (1,), (2,), (3,), (4,)))
        self.assertEqual(kinds(DUMBBELL), ((0, 2), (1,), (3,), (4,), (5, 6), (7,)))
        self.assertEqual(kinds(PARTED), ((0,), (1, 2), (3, 4)))
        self.assertEqual(kinds(CROSSED), ((0,), (1, 4), (2,), (3, 6, 7), (5,)))
        self.assertEqual(kinds(HALF_BLIND), ((0, 2), (1,)))
        self.assertEqual(kinds(EIGHT), ((0, 2, 3), (1,), (4, 5, 6, 7)))
        self.assertEqual(kinds(LONG), (tuple(range(20)), tuple(range(20, 39))))

    def test_ties_that_no_probes_tell_apart_are_in_one_group(self):
        for net in list(small_nets(4))[::5] + list(NETS):
            groups = kinds(net)
            self.assertEqual(groups, slow_twins(net, slow_routes(net)))
            apart = told_apart(net, slow_routes(net))
            for one, other in combinations(range(len(net[1])), 2):
                together = any(one in group and other in group for group in groups)
                self.assertEqual(together, ((one,), (other,)) not in apart)


class IsEnoughTest(unittest.TestCase):
    def test_told(self):
        self.assertIs(is_enough(KITE, (ZAG, LEFT, ZIG)), True)
        self.assertIs(is_enough(KITE, (ZIG, ZAG, LEFT, ZAG)), True)
        self.assertIs(is_enough(KITE, (ZIG, ZAG)), False)
        self.assertIs(is_enough(KITE, (ZAG, ZAG, ZAG)), False)
        self.assertIs(is_enough(KITE, ()), False)

    def test_told_apart_but_one_is_unseen(self):
        # The ties are in their groups, but what is broken may be nothing.
        self.assertEqual(twins(RING, ((0, 1), (0, 2))), kinds(RING))
        self.assertIs(is_enough(RING, ((0, 1), (0, 2))), False)
        self.assertEqual(twins(CHAIN, ()), kinds(CHAIN))
        self.assertIs(is_enough(CHAIN, ()), False)

    def test_all_seen_but_not_told_apart(self):
        self.assertEqual(unseen(KITE, (ZIG, ZAG)), ())
        self.assertIs(is_enough(KITE, (ZIG, ZAG)), False)

    def test_without_routes_none_are_enough(self):
        for net in WITHOUT_ROUTES:
            self.assertIs(is_enough(net, ()), True)

    def test_all_routes_in_any_order_are_enough(self):
        for net in NETS + (WHEEL, EIGHT, ALL_SIX, LONG):
            self.assertIs(is_enough(net, routes(net)), True)
            self.assertIs(is_enough(net, routes(net)[::-1] * 2), True)

    def test_just_those_that_tell_apart_what_any_do(self):
        for net, probes in nets_with_probes():
            self.assertIs(is_enough(net, probes), told_apart(net, probes) == told_apart(net, slow_routes(net)))
        for net in (RING, KITE, DUMBBELL, PARTED, HALF_BLIND):
            wanted = told_apart(net, slow_routes(net))
            for probes in subsets(slow_routes(net)):
                self.assertIs(is_enough(net, probes[::-1]), told_apart(net, probes) == wanted)


def some_shown(net, probes):
    """What is shown by no broken tie, by one and by two, and what perhaps nothing shows."""
    many = len(probes)
    breaks = [broken for broken in subsets(range(len(net[1]))) if len(broken) < 3]
    shown = {slow_shows(net, probes, broken): True for broken in breaks}
    for row in list(product((True, False), repeat=min(many, 4))):
        shown[(row * many)[:many]] = True
    return list(shown)


class SuspectsTest(unittest.TestCase):
    def test_told(self):
        self.assertEqual(suspects(KITE, (ZAG, LEFT, ZIG), (True, True, True)), (None,))
        self.assertEqual(suspects(KITE, (ZAG, LEFT, ZIG), (False, True, False)), (2,))
        self.assertEqual(suspects(KITE, (ZIG, ZAG), (True, False)), (0, 4))
        self.assertEqual(suspects(KITE, (ZAG, ZIG), (True, False)), (1, 3))
        self.assertEqual(suspects(KITE, (RIGHT,), (True,)), (None, 0, 2, 3))
        self.assertEqual(suspects(KITE, (), ()), (None, 0, 1, 2, 3, 4))
        self.assertEqual(suspects(DUMBBELL, routes(DUMBBELL), (True, True, True, True)), (None, 7))
        self.assertEqual(suspects(DUMBBELL, routes(DUMBBELL), (False, False, False, False)), (3,))
        self.assertEqual(suspects(HALF_BLIND, ((2, 3),), (False,)), (1,))

    def test_what_no_tie_shows(self):
        self.assertEqual(suspects(KITE, (ZAG, LEFT, ZIG), (False, False, False)), ())
        self.assertEqual(suspects(KITE, (ZAG, ZAG), (True, False)), ())
        self.assertEqual(suspects(PARTED, ((0, 1), (3, 4, 5)), (False, False)), ())

    def test_nothing_to_probe(self):
        self.assertEqual(suspects(LONE, (), ()), (None,))
        self.assertEqual(suspects(BARE, (), ()), (None,))
        self.assertEqual(suspects(ONE_RIM, (), ()), (None, 0, 1, 2, 3, 4))

    def test_just_what_would_show_so(self):
        for net, probes in nets_with_probes():
            for shown in some_shown(net, probes):
                self.assertEqual(suspects(net, probes, shown), slow_suspects(net, probes, shown))


class SuspectPairsTest(unittest.TestCase):
    def test_told(self):
        shown = (False, False, False, True)
        self.assertEqual(suspect_pairs(KITE, (ZAG, LEFT, ZIG, RIGHT), shown), ((0, 2), (0, 3), (2, 3)))
        self.assertEqual(suspect_pairs(KITE, (ZIG, ZAG), (True, False)), ((0, 4),))
        self.assertEqual(suspect_pairs(KITE, (ZAG, ZIG), (True, False)), ((1, 3),))
        self.assertEqual(suspect_pairs(KITE, (RIGHT,), (True,)), ((0, 2), (0, 3), (2, 3)))
        self.assertEqual(suspect_pairs(CHAIN, (), ()), ((0, 1),))
        self.assertEqual(suspect_pairs(CHAIN, ((0, 1, 2),), (False,)), ((0, 1),))
        self.assertEqual(suspect_pairs(HALF_BLIND, ((2, 3),), (True,)), ((0, 2),))

    def test_none(self):
        self.assertEqual(suspect_pairs(KITE, (ZAG, LEFT, ZIG, RIGHT), (True, True, True, True)), ())
        self.assertEqual(suspect_pairs(KITE, (ZAG, ZAG), (True, False)), ())
        self.assertEqual(suspect_pairs(CHAIN, ((0, 1, 2),), (True,)), ())
        self.assertEqual(suspect_pairs(LONE, (), ()), ())
        self.assertEqual(suspect_pairs(BARE, (), ()), ())
        self.assertEqual(suspect_pairs((2, ((0, 1),), (0, 1)), ((0, 1),), (False,)), ())

    def test_just_what_would_show_so(self):
        for net, probes in nets_with_probes():
            pairs = list(combinations(range(len(net[1])), 2))
            for shown in some_shown(net, probes):
                wanted = tuple(pair for pair in pairs if slow_shows(net, probes, pair) == shown)
                self.assertEqual(suspect_pairs(net, probes, shown), wanted)


class TheOneTest(unittest.TestCase):
    def assert_none(self, net, probes, shown):
        with self.assertRaises(NoSuspect) as caught:
            the_one(net, probes, shown)
        self.assertIsInstance(caught.exception, ProbeError)

    def test_told(self):
        self.assertEqual(the_one(KITE, (ZAG, LEFT, ZIG), (False, True, False)), 2)
        self.assertEqual(the_one(KITE, (ZAG, LEFT, ZIG), (False, False, True)), 0)
        self.assertEqual(the_one(DUMBBELL, routes(DUMBBELL), (False, False, False, False)), 3)
        self.assertEqual(the_one(HALF_BLIND, ((2, 3), (2, 3)), (False, False)), 1)

    def test_none_shows_so(self):
        self.assert_none(KITE, (ZAG, LEFT, ZIG), (False, False, False))
        self.assert_none(KITE, (ZAG, ZAG), (True, False))

    def test_nothing_is_broken(self):
        self.assert_none(KITE, (ZAG, LEFT, ZIG), (True, True, True))
        self.assert_none(LONE, (), ())
        self.assert_none(BARE, (), ())

    def test_nothing_or_one_that_is_unseen(self):
        self.assert_none(KITE, (RIGHT, LEFT), (True, True))
        self.assert_none((2, ((0, 1),), (0, 1)), (), ())
        self.assert_none((2, ((0, 1),), (0,)), (), ())

    def test_several(self):
        self.assert_none(KITE, (ZIG, ZAG), (True, False))
        self.assert_none(CHAIN, ((0, 1, 2),), (False,))
        self.assert_none(KITE, (), ())
        self.assert_none(ONE_RIM, (), ())

    def test_by_the_words_of_the_document(self):
        for net, probes in nets_with_probes():
            for shown in some_shown(net, probes):
                found = slow_suspects(net, probes, shown)
                if len(found) == 1 and found != (None,):
                    self.assertEqual((the_one(net, probes, shown),), found)
                else:
                    self.assert_none(net, probes, shown)


class UntoldPairsTest(unittest.TestCase):
    def test_told(self):
        self.assertEqual(untold_pairs(CHAIN, ()), (((0,), (0, 1)), ((0,), (1,)), ((0, 1), (1,))))
        self.assertEqual(untold_pairs(CHAIN, ((0, 1, 2),)), (((0,), (0, 1)), ((0,), (1,)), ((0, 1), (1,))))
        self.assertEqual(untold_pairs(RING, ((0, 1), (0, 2), (1, 2))), ())
        self.assertEqual(untold_pairs(RING, ((0, 1), (0, 2))), (((0,), (0, 2)), ((1,), (1, 2))))
        self.assertEqual(untold_pairs(HALF_BLIND, ((2, 3), (2, 3))), (
            ((0,), (0, 2)), ((0,), (2,)), ((0, 1), (1,)), ((0, 1), (1, 2)), ((0, 2), (2,)), ((1,), (1, 2)),
        ))

    def test_none(self):
        self.assertEqual(untold_pairs(LONE, ()), ())
        self.assertEqual(untold_pairs(BARE, ()), ())
        self.assertEqual(untold_pairs((2, ((0, 1),), (0, 1)), ()), ())

    def test_no_probes_tell_none_apart(self):
        self.assertEqual(len(untold_pairs(ONE_RIM, ())), 15 * 14 // 2)

    def test_by_the_words_of_the_document(self):
        for net, probes in nets_with_probes():
            ties = range(len(net[1]))
            breaks = sorted([(tie,) for tie in ties] + list(combinations(ties, 2)))
            shown = {broken: slow_shows(net, probes, broken) for broken in breaks}
            wanted = sorted(pair for pair in combinations(breaks, 2) if shown[pair[0]] == shown[pair[1]])
            self.assertEqual(untold_pairs(net, probes), tuple(wanted))


if __name__ == "__main__":
    unittest.main()
