"""[7.1] and [7.2]: seekers, and nets that grow; [0.2] (g)."""

import unittest
from itertools import combinations, product

from probeties.errors import NoRoute, NoStep, NoSuspect
from probeties.nets import is_net
from probeties.plans import cases
from probeties.seekers import Seeker, broken_off, with_knot, with_tie
from samples import (
    ALL_SIX, BARE, CHAIN, CROSSED, DUMBBELL, EIGHT, FULL, GREATER, HALF_BLIND, KITE, LONE, LONG, NETS, ONE_RIM, PARTED,
    RING, UNEVEN, WHEEL, WITHOUT_ROUTES, slow_best, slow_cases, slow_left, slow_routes, slow_ties_of, small_nets,
)

ZAG, LEFT, ZIG, RIGHT = (0, 1, 2, 3), (0, 1, 3), (0, 2, 1, 3), (0, 2, 3)
NO_ROUTES = (
    (), (0,), (3, 1, 0), (0, 3), (0, 1), (1, 3), (0, 1, 1, 3), (0, 1, 4, 3), (0, -1, 3), (False, 1, 3), (0, True, 3),
    None, True, 0, "013", "", ("0", "1", "3"), ((0, 1, 3),), (0, (1,), 3), (0, None, 3),
)


def state(seeker):
    """All that a seeker tells."""
    return (seeker.left(), seeker.history(), seeker.best())


class SeekerCase(unittest.TestCase):
    def assert_refused(self, error, seeker, deed, *things):
        """The deed is refused by this very class, and the seeker is as it was."""
        before = state(seeker)
        with self.assertRaises(error) as caught:
            deed(*things)
        self.assertIs(type(caught.exception), error)
        self.assertEqual(state(seeker), before)


class LeftTest(SeekerCase):
    def test_all_cases_at_the_beginning(self):
        for net in list(small_nets(3)) + list(NETS) + list(GREATER):
            seeker = Seeker(net)
            self.assertEqual(seeker.left(), cases(net))
            self.assertEqual(seeker.history(), ())

    def test_told(self):
        seeker = Seeker(KITE)
        self.assertIsNone(seeker.tell(ZAG, False))
        self.assertEqual(seeker.left(), (0, 2, 4))
        self.assertIsNone(seeker.tell(LEFT, True))
        self.assertEqual(seeker.left(), (2, 4))
        self.assertIsNone(seeker.tell(RIGHT, True))
        self.assertEqual(seeker.left(), (2,))
        self.assertEqual(seeker.history(), ((ZAG, False), (LEFT, True), (RIGHT, True)))

    def test_nothing_may_be_broken(self):
        seeker = Seeker(KITE)
        seeker.tell(ZIG, True)
        self.assertEqual(seeker.left(), (None, 0, 4))
        seeker.tell(ZAG, True)
        self.assertEqual(seeker.left(), (None,))

    def test_the_same_told_again_is_kept_again(self):
        seeker = Seeker(RING)
        for turn in range(3):
            seeker.tell((0, 1), False)
            self.assertEqual(seeker.left(), (0,))
        self.assertEqual(seeker.history(), (((0, 1), False),) * 3)

    def test_tuples(self):
        seeker = Seeker(KITE)
        seeker.tell(ZAG, True)
        self.assertIs(type(seeker.left()), tuple)
        self.assertIs(type(seeker.history()), tuple)
        self.assertIs(type(seeker.history()[0]), tuple)
        self.assertIs(type(seeker.best()), tuple)

    def test_what_was_asked_before_stays_as_it_was(self):
        seeker = Seeker(KITE)
        seeker.tell(ZAG, False)
        left, history = seeker.left(), seeker.history()
        seeker.tell(LEFT, False)
        self.assertEqual((left, history), ((0, 2, 4), ((ZAG, False),)))


class TellTest(SeekerCase):
    def test_all_that_may_be_told_three_times(self):
        for net in (LONE, CHAIN, RING, KITE, HALF_BLIND, PARTED, CROSSED, DUMBBELL):
            asks = list(product(slow_routes(net), (True, False)))
            for told in product(asks, repeat=3):
                self.check(net, told)

    def check(self, net, told):
        """Tell all of it as far as cases are left; then take it back step by step."""
        seeker = Seeker(net)
        kept = ()
        for route, is_shown in told:
            wanted = slow_left(net, kept + ((route, is_shown),))
            if wanted:
                seeker.tell(route, is_shown)
                kept += ((route, is_shown),)
            else:
                with self.assertRaises(NoSuspect):
                    seeker.tell(route, is_shown)
            self.assertEqual(seeker.left(), slow_left(net, kept), (net, told))
            self.assertEqual(seeker.history(), kept, (net, told))
        while kept:
            seeker.back()
            kept = kept[:-1]
            self.assertEqual(seeker.left(), slow_left(net, kept), (net, told))
            self.assertEqual(seeker.history(), kept, (net, told))
        self.assertRaises(NoStep, seeker.back)

    def test_each_case_is_left_by_what_it_shows(self):
        for net in list(NETS) + list(UNEVEN) + [WHEEL]:
            for case in slow_cases(net):
                seeker = Seeker(net)
                for route in slow_routes(net):
                    seeker.tell(route, case not in slow_ties_of(net, route))
                self.assertEqual(seeker.left(), (case,), (net, case))

    def test_no_route(self):
        seeker = Seeker(KITE)
        for turn in range(2):
            for thing in NO_ROUTES:
                for is_shown in (True, False):
                    self.assert_refused(NoRoute, seeker, seeker.tell, thing, is_shown)
            seeker.tell(ZAG, False)

    def test_a_route_of_another_net(self):
        seeker = Seeker(RING)
        self.assert_refused(NoRoute, seeker, seeker.tell, LEFT, True)
        seeker = Seeker(LONE)
        self.assert_refused(NoRoute, seeker, seeker.tell, (0, 1), False)

    def test_no_route_where_no_case_would_be_left_either(self):
        # By ties 0 and 3, that are whole, the turned row could not show False.
        seeker = Seeker(KITE)
        seeker.tell(LEFT, True)
        self.assert_refused(NoSuspect, seeker, seeker.tell, LEFT, False)
        self.assert_refused(NoRoute, seeker, seeker.tell, LEFT[::-1], False)
        self.assert_refused(NoRoute, seeker, seeker.tell, (0, 1), False)
        self.assert_refused(NoRoute, seeker, seeker.tell, (), False)

    def test_no_suspect(self):
        seeker = Seeker(KITE)
        seeker.tell(ZAG, True)
        self.assert_refused(NoSuspect, seeker, seeker.tell, ZAG, False)
        seeker.tell(ZIG, True)
        for route in (ZAG, LEFT, ZIG, RIGHT):
            self.assert_refused(NoSuspect, seeker, seeker.tell, route, False)
        seeker.back()
        seeker.tell(LEFT, False)
        self.assertEqual(seeker.left(), (3,))
        self.assert_refused(NoSuspect, seeker, seeker.tell, ZIG, True)
        seeker.tell(ZIG, False)
        self.assertEqual(seeker.history(), ((ZAG, True), (LEFT, False), (ZIG, False)))


class BackTest(SeekerCase):
    def test_to_the_beginning_and_once_more(self):
        seeker = Seeker(KITE)
        beginning = state(seeker)
        self.assert_refused(NoStep, seeker, seeker.back)
        states = []
        for told in ((ZAG, False), (LEFT, True), (RIGHT, True)):
            states.append(state(seeker))
            seeker.tell(*told)
        for wanted in reversed(states):
            self.assertIsNone(seeker.back())
            self.assertEqual(state(seeker), wanted)
        self.assertEqual(state(seeker), beginning)
        for turn in range(2):
            self.assert_refused(NoStep, seeker, seeker.back)
        seeker.tell(ZAG, True)
        self.assertEqual(seeker.history(), ((ZAG, True),))

    def test_what_took_no_case_is_a_step_too(self):
        seeker = Seeker(CHAIN)
        seeker.tell((0, 1, 2), True)
        seeker.tell((0, 1, 2), True)
        seeker.back()
        self.assertEqual(seeker.left(), (None,))
        seeker.back()
        self.assertEqual(seeker.left(), (None, 0))
        self.assert_refused(NoStep, seeker, seeker.back)

    def test_what_was_refused_is_no_step(self):
        seeker = Seeker(CHAIN)
        seeker.tell((0, 1, 2), True)
        self.assert_refused(NoSuspect, seeker, seeker.tell, (0, 1, 2), False)
        self.assert_refused(NoRoute, seeker, seeker.tell, (0, 2), False)
        seeker.back()
        self.assertEqual(state(seeker), state(Seeker(CHAIN)))
        self.assert_refused(NoStep, seeker, seeker.back)


class BestTest(SeekerCase):
    def test_the_least_of_several_that_part_alike(self):
        # Both three-knot ways leave two of four cases either way, as does 1 0 2.
        self.assertEqual(Seeker(RING).best(), (0, 1, 2))
        # ZAG and ZIG leave three of six either way.
        seeker = Seeker(KITE)
        self.assertEqual(seeker.best(), ZAG)
        seeker.tell(ZAG, False)
        # Of 0, 2 and 4, each of the others parts one off.
        self.assertEqual(seeker.best(), LEFT)

    def test_not_the_first_that_parts(self):
        seeker = Seeker(RING)
        self.assertNotEqual(seeker.best(), (0, 1))
        seeker.tell((0, 1), True)
        # By 0 1 2 the tie 2 goes alone, by 0 2 the tie 1.
        self.assertEqual(seeker.left(), (None, 1, 2))
        self.assertEqual(seeker.best(), (0, 1, 2))

    def test_none(self):
        for net in WITHOUT_ROUTES:
            self.assertIsNone(Seeker(net).best())
        seeker = Seeker(CHAIN)
        self.assertEqual(seeker.best(), (0, 1, 2))
        for is_shown in (True, False):
            seeker.tell((0, 1, 2), is_shown)
            self.assertIsNone(seeker.best())
            seeker.back()
            self.assertEqual(seeker.best(), (0, 1, 2))

    def test_asking_changes_nothing(self):
        seeker = Seeker(KITE)
        seeker.tell(ZAG, True)
        first = state(seeker)
        self.assertEqual(state(seeker), first)

    def test_by_the_words_of_the_document(self):
        for net in list(small_nets(4)) + list(NETS) + list(UNEVEN) + [WHEEL, EIGHT]:
            self.check_followed(net)

    def check_followed(self, net):
        """By best alone each case is told from all others."""
        for case in slow_cases(net):
            seeker = Seeker(net)
            route = seeker.best()
            while route is not None:
                self.assertEqual(route, slow_best(net, seeker.left()), (net, seeker.left()))
                seeker.tell(route, case not in slow_ties_of(net, route))
                route = seeker.best()
            self.assertIsNone(slow_best(net, seeker.left()))
            self.assertEqual(seeker.left(), (case,), net)

    def test_behind_any_one_told(self):
        for net in (RING, KITE, FULL, CROSSED) + UNEVEN:
            for route, is_shown in product(slow_routes(net), (True, False)):
                seeker = Seeker(net)
                seeker.tell(route, is_shown)
                self.assertEqual(seeker.best(), slow_best(net, seeker.left()), (net, route, is_shown))


class SideBySideTest(SeekerCase):
    def test_two_seekers_of_one_net(self):
        one, other = Seeker(KITE), Seeker(KITE)
        one.tell(ZAG, True)
        self.assertEqual(state(other), state(Seeker(KITE)))
        other.tell(ZIG, False)
        other.tell(LEFT, True)
        self.assertEqual((one.left(), one.history()), ((None, 1, 3), ((ZAG, True),)))
        self.assertEqual((other.left(), other.history()), ((1, 2), ((ZIG, False), (LEFT, True))))
        one.back()
        self.assert_refused(NoStep, one, one.back)
        self.assertEqual(other.left(), (1, 2))
        other.back()
        self.assertEqual(other.left(), (1, 2, 3))

    def test_seekers_of_unlike_nets(self):
        one, other = Seeker(KITE), Seeker(RING)
        one.tell(ZAG, False)
        other.tell((0, 1), True)
        self.assertEqual((one.left(), other.left()), ((0, 2, 4), (None, 1, 2)))

    def test_the_net_is_as_it_was(self):
        net = (4, ((0, 1), (0, 2), (1, 2), (1, 3), (2, 3)), (0, 3))
        seeker = Seeker(net)
        seeker.tell(ZAG, False)
        seeker.back()
        self.assertEqual(net, KITE)


class WithTieTest(unittest.TestCase):
    def test_one_that_was_not_there(self):
        self.assertEqual(with_tie(CHAIN, (0, 2)), (3, ((0, 1), (0, 2), (1, 2)), (0, 2)))
        self.assertEqual(with_tie(BARE, (2, 3)), (4, ((2, 3),), (0, 2, 3)))
        self.assertEqual(with_tie(KITE, (0, 3)), (4, ((0, 1), (0, 2), (0, 3), (1, 2), (1, 3), (2, 3)), (0, 3)))
        self.assertEqual(with_tie(PARTED, (2, 5))[1], ((0, 1), (0, 2), (1, 2), (2, 5), (3, 4), (4, 5)))

    def test_one_that_is_there_already(self):
        for net in NETS + GREATER:
            for tie in net[1]:
                self.assertEqual(with_tie(net, tie), net)

    def test_all_pairs(self):
        for net in small_nets(4):
            for tie in combinations(range(net[0]), 2):
                wanted = (net[0], tuple(sorted(set(net[1]) | {tie})), net[2])
                self.assertEqual(with_tie(net, tie), wanted)
                self.assertIs(is_net(with_tie(net, tie)), True)

    def test_more_ties_than_nine(self):
        more = FULL
        for tie in combinations(range(7), 2):
            more = with_tie(more, tie)
        self.assertEqual(more, (7, tuple(combinations(range(7), 2)), FULL[2]))
        self.assertIs(is_net(with_tie(FULL, (5, 6))), True)
        self.assertIs(is_net(with_tie(FULL, (0, 6))), False)


class WithKnotTest(unittest.TestCase):
    def test_on_the_rim_and_not(self):
        self.assertEqual(with_knot(LONE, True), (2, (), (0, 1)))
        self.assertEqual(with_knot(LONE, False), (2, (), (0,)))
        self.assertEqual(with_knot(KITE, True), (5, KITE[1], (0, 3, 4)))
        self.assertEqual(with_knot(KITE, False), (5, KITE[1], (0, 3)))

    def test_all(self):
        for net in list(small_nets(3)) + list(NETS) + list(GREATER):
            many, ties, rim = net
            self.assertEqual(with_knot(net, True), (many + 1, ties, rim + (many,)))
            self.assertEqual(with_knot(net, False), (many + 1, ties, rim))
            self.assertIs(is_net(with_knot(net, True)), many < 7 and len(ties) < 10)

    def test_the_new_knot_can_be_tied(self):
        more = with_tie(with_tie(with_knot(CHAIN, True), (2, 3)), (0, 3))
        self.assertEqual(more, (4, ((0, 1), (0, 3), (1, 2), (2, 3)), (0, 2, 3)))
        self.assertEqual(Seeker(more).left(), (None, 0, 1, 3))


class BrokenOffTest(unittest.TestCase):
    def test_each_tie(self):
        for net in list(small_nets(3)) + list(NETS) + list(GREATER):
            for at in range(len(net[1])):
                less = broken_off(net, at)
                self.assertEqual(less, (net[0], net[1][:at] + net[1][at + 1:], net[2]))
                self.assertEqual(with_tie(less, net[1][at]), net)

    def test_all_one_behind_the_other(self):
        net = DUMBBELL
        while net[1]:
            net = broken_off(net, 0)
        self.assertEqual(net, (7, (), (0, 4)))
        self.assertEqual(Seeker(net).left(), (None,))

    def test_takes_back_what_with_tie_added(self):
        for net in small_nets(4):
            for tie in combinations(range(net[0]), 2):
                if tie not in net[1]:
                    more = with_tie(net, tie)
                    self.assertEqual(broken_off(more, more[1].index(tie)), net)


class GreaterTest(SeekerCase):
    def test_seekers_of_greater_nets(self):
        seeker = Seeker(LONG)
        self.assertEqual(seeker.left(), (None, 0, 20))
        self.assertEqual(seeker.best(), tuple(range(21)))
        seeker.tell(tuple(range(40)), False)
        self.assertEqual(seeker.left(), (0, 20))
        self.assertEqual(seeker.best(), tuple(range(21)))
        seeker.tell(tuple(range(21)), True)
        self.assertEqual(seeker.left(), (20,))
        self.assert_refused(NoSuspect, seeker, seeker.tell, tuple(range(20, 40)), True)
        seeker = Seeker(ALL_SIX)
        seeker.tell((1, 4), False)
        self.assertEqual(len(seeker.left()), 1)
        self.assert_refused(NoRoute, seeker, seeker.tell, (4, 1), True)

    def test_a_net_with_one_rim_knot(self):
        seeker = Seeker(ONE_RIM)
        self.assertEqual(state(seeker), ((None,), (), None))
        self.assert_refused(NoRoute, seeker, seeker.tell, (2,), True)
        self.assert_refused(NoStep, seeker, seeker.back)


if __name__ == "__main__":
    unittest.main()
