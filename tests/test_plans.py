"""[5.1]: plans; [0.2] (e)."""

import unittest
from itertools import combinations

from probeties.plans import asks_needed, cases, deep, followed, is_plan, least_deep, plan, plan_within
from probeties.routes import routes, ties_of
from samples import (
    ALL_SIX, BARE, CHAIN, CROSSED, DUMBBELL, EIGHT, FULL, GREATER, HALF_BLIND, KITE, LONE, LONG, NETS, ONE_RIM,
    PARTED, RING, RINGS_APART, TIE, TIES_APART, TURNED, UNEVEN, WHEEL, WITHOUT_ROUTES, all_plans, nets_of_few_routes,
    slow_cases, slow_least_deep, slow_routes, slow_shows, slow_twins, small_nets,
)

ZAG, LEFT, ZIG, RIGHT = (0, 1, 2, 3), (0, 1, 3), (0, 2, 1, 3), (0, 2, 3)
WHOLE = ("is", None)
RING_PLAN = ("ask", (0, 1, 2), ("ask", (0, 2), WHOLE, ("is", 1)), ("ask", (1, 2), ("is", 0), ("is", 2)))
# It asks more than it must, but is one.
RING_ROW = ("ask", (0, 1), ("ask", (0, 2), ("ask", (1, 2), WHOLE, ("is", 2)), ("is", 1)), ("is", 0))
KITE_PLAN = (
    "ask", ZAG,
    ("ask", ZIG, WHOLE, ("ask", RIGHT, ("is", 3), ("is", 1))),
    ("ask", LEFT, ("ask", RIGHT, ("is", 2), ("is", 4)), ("is", 0)),
)
SMALL = (LONE, BARE, ONE_RIM, CHAIN, TIE, HALF_BLIND, PARTED, RING, KITE, DUMBBELL)


def parts_exchanged(thing, change):
    """The thing with change's results for one of its plans, itself or any inside it."""
    yield from change(thing)
    if thing[0] == "ask":
        for at in (2, 3):
            for other in parts_exchanged(thing[at], change):
                yield thing[:at] + (other,) + thing[at + 1:]


class CasesTest(unittest.TestCase):
    def test_told(self):
        self.assertEqual(cases(CHAIN), (None, 0))
        self.assertEqual(cases(RING), (None, 0, 1, 2))
        self.assertEqual(cases(KITE), (None, 0, 1, 2, 3, 4))
        self.assertEqual(cases(DUMBBELL), (None, 0, 1, 3, 4, 5))
        self.assertEqual(cases(PARTED), (None, 0, 1, 3))
        self.assertEqual(cases(CROSSED), (None, 0, 1, 2, 3, 5))
        self.assertEqual(cases(HALF_BLIND), (None, 1))
        self.assertEqual(cases(LONG), (None, 0, 20))

    def test_without_routes(self):
        for net in WITHOUT_ROUTES:
            self.assertEqual(cases(net), (None,))

    def test_by_the_words_of_the_document(self):
        for net in list(small_nets(4)) + list(NETS) + [WHEEL]:
            self.assertEqual(cases(net), slow_cases(net))


class LeastDeepTest(unittest.TestCase):
    def test_told(self):
        self.assertEqual(least_deep(CHAIN), 1)
        self.assertEqual(least_deep(HALF_BLIND), 1)
        self.assertEqual(least_deep(RING), 2)
        self.assertEqual(least_deep(PARTED), 3)
        self.assertEqual(least_deep(KITE), 3)
        self.assertEqual(least_deep(LONG), 2)
        self.assertEqual(least_deep(TIES_APART), 24)
        self.assertEqual(least_deep(RINGS_APART), 12)

    def test_without_routes(self):
        for net in WITHOUT_ROUTES:
            self.assertEqual(least_deep(net), 0)

    def test_the_least_of_all_plans(self):
        for net in SMALL:
            self.assertEqual(least_deep(net), min(deep(each) for each in all_plans(net)), net)

    def test_the_most_even_parts_first_are_not_the_best(self):
        for net in UNEVEN:
            self.assertEqual(least_deep(net), 3)
            self.assertEqual(deep(plan(net)), 3)

    def test_no_plan_asks_fewer_at_the_most(self):
        for net in nets_of_few_routes() + list(UNEVEN) + [WHEEL, ALL_SIX]:
            self.assertEqual(least_deep(net), slow_least_deep(net), net)


class PlanTest(unittest.TestCase):
    def test_without_routes(self):
        for net in WITHOUT_ROUTES:
            self.assertEqual(plan(net), WHOLE)

    def test_but_one(self):
        self.assertEqual(plan(TIE), ("ask", (0, 1), WHOLE, ("is", 0)))
        self.assertEqual(plan(CHAIN), ("ask", (0, 1, 2), WHOLE, ("is", 0)))
        self.assertEqual(plan(HALF_BLIND), ("ask", (2, 3), WHOLE, ("is", 1)))

    def test_one_of_all_plans(self):
        for net in SMALL:
            self.assertIn(repr(plan(net)), [repr(each) for each in all_plans(net)])

    def test_a_plan_that_asks_as_few_as_can_be(self):
        for net in nets_of_few_routes() + list(GREATER) + [TIES_APART, RINGS_APART]:
            told = plan(net)
            self.assertIs(is_plan(net, told), True)
            self.assertEqual(deep(told), least_deep(net))

    def test_it_tells_each_case_from_all_others(self):
        for net in nets_of_few_routes():
            told = plan(net)
            self.assertEqual(followed(net, told, ())[0], None)
            for case in cases(net)[1:]:
                self.assertEqual(followed(net, told, (case,))[0], case)


class SearchTest(unittest.TestCase):
    def test_asks_needed(self):
        self.assertEqual([asks_needed(many, 9) for many in range(1, 10)], [0, 1, 2, 2, 3, 3, 3, 3, 4])
        self.assertEqual([asks_needed(many, 1) for many in range(1, 10)], [0, 1, 2, 3, 4, 5, 6, 7, 8])
        self.assertEqual([asks_needed(many, 2) for many in range(1, 10)], [0, 1, 2, 2, 3, 3, 4, 4, 5])

    def test_a_plan_just_where_there_is_room(self):
        for net in nets_of_few_routes()[::3] + list(UNEVEN):
            asks = [(route, ties_of(net, route)) for route in routes(net)]
            least = slow_least_deep(net)
            for room in range(least):
                self.assertIsNone(plan_within(asks, cases(net), room, {}))
            for room in (least, least + 1):
                found = plan_within(asks, cases(net), room, {})
                self.assertIs(is_plan(net, found), True)
                self.assertLessEqual(deep(found), room)


class DeepTest(unittest.TestCase):
    def test_told(self):
        self.assertEqual(deep(WHOLE), 0)
        self.assertEqual(deep(("is", 4)), 0)
        self.assertEqual(deep(("ask", (0, 1), WHOLE, ("is", 0))), 1)
        self.assertEqual(deep(RING_PLAN), 2)
        self.assertEqual(deep(RING_ROW), 3)
        self.assertEqual(deep(KITE_PLAN), 3)

    def test_either_part_may_be_the_deeper_one(self):
        self.assertEqual(deep(("ask", (0, 1), RING_ROW, RING_PLAN)), 4)
        self.assertEqual(deep(("ask", (0, 1), RING_PLAN, RING_ROW)), 4)
        self.assertEqual(deep(("ask", (0, 1), WHOLE, RING_ROW)), 4)

    def test_by_the_words_of_the_document(self):
        def slow_deep(each):
            return 0 if each[0] == "is" else 1 + max(slow_deep(each[2]), slow_deep(each[3]))

        for net in SMALL:
            for each in all_plans(net):
                self.assertEqual(deep(each), slow_deep(each))


class IsPlanTest(unittest.TestCase):
    def assert_none(self, net, *things):
        for thing in things:
            self.assertIs(is_plan(net, thing), False, (net, thing))

    def assert_just_the_plans(self, net, change):
        """Of some plans with one part exchanged, just those are plans that stand among all plans."""
        plans = all_plans(net)
        known = {repr(each) for each in plans}
        some = plans[::1 + len(plans) // 30]
        tried = {repr(other): other for each in some for other in parts_exchanged(each, change)}
        self.assertTrue(tried)
        for written, other in tried.items():
            self.assertIs(is_plan(net, other), written in known, (net, other))

    def test_all_plans(self):
        for net in SMALL + (EIGHT,):
            for each in all_plans(net):
                self.assertIs(is_plan(net, each), True)
        self.assertIs(is_plan(RING, RING_PLAN), True)
        self.assertIs(is_plan(RING, RING_ROW), True)
        self.assertIs(is_plan(KITE, KITE_PLAN), True)

    def test_plans_for_other_nets(self):
        for net, other in combinations(SMALL + (EIGHT,), 2):
            if slow_routes(net) or slow_routes(other):
                self.assert_none(net, plan(other))
                self.assert_none(other, plan(net))

    def test_lists_for_tuples(self):
        def listed(each):
            yield list(each)
            if each[0] == "ask":
                yield ("ask", list(each[1])) + each[2:]

        for net in SMALL:
            self.assert_just_the_plans(net, listed)
            self.assert_none(net, [plan(net)], (plan(net),))

    def test_a_case_exchanged(self):
        others = (None, 0, 1, 2, 3, 4, 5, 6, 7, -1, True, False, "0", "None", "", (0,), [0], (), (None,))
        for net in SMALL:
            self.assert_just_the_plans(net, lambda each: [("is", other) for other in others if each[0] == "is"])

    def test_truths_for_cases(self):
        self.assert_none(TIE, ("ask", (0, 1), WHOLE, ("is", False)), ("ask", (0, 1), ("is", False), ("is", 0)))
        self.assert_none(HALF_BLIND, ("ask", (2, 3), WHOLE, ("is", True)))
        self.assert_none(LONE, ("is", False), ("is", True), ("is", 0))

    def test_another_tie_of_the_group(self):
        self.assert_none(CHAIN, ("ask", (0, 1, 2), WHOLE, ("is", 1)))
        self.assert_none(ONE_RIM, ("is", 0))
        self.assert_none(HALF_BLIND, ("ask", (2, 3), ("is", 0), ("is", 1)))

    def test_a_route_exchanged(self):
        for net in SMALL:
            others = list(slow_routes(net)) + [route[::-1] for route in slow_routes(net)]
            others += [None, 0, True, "01", (), (0,), (0, net[0]), ((0, 1),), (False, True), (False, 1)]
            self.assert_just_the_plans(net, lambda each: [
                ("ask", other) + each[2:] if each[0] == "ask" else each for other in others
            ])

    def test_truths_for_knots(self):
        self.assert_none(TIE, ("ask", (False, 1), WHOLE, ("is", 0)), ("ask", (0, True), WHOLE, ("is", 0)))

    def test_parts_left_out_said_twice_or_turned_about(self):
        def mangled(each):
            for at in range(len(each)):
                yield each[:at] + each[at + 1:]
                yield each[:at + 1] + each[at:]
                yield each[:at] + (None,) + each[at + 1:]
            yield each + (None,)
            yield each[:-2] + each[:-3:-1]
            yield each[::-1]

        for net in SMALL:
            self.assert_just_the_plans(net, mangled)

    def test_other_words(self):
        words = ("", "is", "ask", "Is", "ASK", "is ", "asks", "whole", None, 0, True, ("is",), ["ask"])
        for net in SMALL:
            self.assert_just_the_plans(net, lambda each: [(word,) + each[1:] for word in words])

    def test_a_needless_ask(self):
        for net in (CHAIN, TIE, HALF_BLIND, PARTED, RING, KITE, DUMBBELL):
            asks = slow_routes(net)
            self.assert_just_the_plans(net, lambda each: [("ask", route, each, each) for route in asks])
            self.assert_just_the_plans(net, lambda each: [("ask", route, each, WHOLE) for route in asks])
            self.assert_just_the_plans(net, lambda each: [("ask", route, ("is", 0), each) for route in asks])

    def test_an_end_too_early(self):
        for net in (CHAIN, TIE, HALF_BLIND, PARTED, RING, KITE, DUMBBELL):
            self.assert_none(net, WHOLE, ("is", 0), ("is", 1))
            self.assert_just_the_plans(net, lambda each: [("is", case) for case in slow_cases(net)])

    def test_other_things(self):
        for net in (LONE, ONE_RIM, CHAIN, KITE, WHEEL):
            self.assert_none(net, None, True, False, 0, 1, "", "is", "ask", "isNone", (), [], ("is",), ("ask",))
            self.assert_none(net, ("is", "None"), ("is", ()), ("is", []), ["is", None], ("ask", (0, 1)), (None, None))
            self.assert_none(net, ("is", None, None), ("ask", (0, 1), None, None), ("ask", None, None, None))
            self.assert_none(net, ("ask", (0, 1), (), ()), ("ask", (0, 1), [], []), (("is", None),), ("ask", 0, 1, 2))
            deep_thing = WHOLE
            for turn in range(12):
                deep_thing = ("ask", (0, 1, 2), deep_thing, [deep_thing])
                self.assert_none(net, deep_thing, [deep_thing], ("is", deep_thing), (deep_thing, deep_thing))

    def test_a_plan_of_many_asks(self):
        told = WHOLE
        for at in range(24):
            told = ("ask", (2 * at, 2 * at + 1), told, ("is", at))
        self.assertIs(is_plan(TIES_APART, told), True)
        self.assertEqual(deep(told), 24)
        self.assertEqual(followed(TIES_APART, told, (0,)), (0, routes(TIES_APART)[::-1]))
        self.assert_none(TIES_APART, ("ask", (0, 1), told, ("is", 0)))


class FollowedTest(unittest.TestCase):
    def test_nothing_broken(self):
        self.assertEqual(followed(LONE, WHOLE, ()), (None, ()))
        self.assertEqual(followed(BARE, WHOLE, ()), (None, ()))
        self.assertEqual(followed(RING, RING_PLAN, ()), (None, ((0, 1, 2), (0, 2))))
        self.assertEqual(followed(RING, RING_ROW, ()), (None, ((0, 1), (0, 2), (1, 2))))
        self.assertEqual(followed(KITE, KITE_PLAN, ()), (None, (ZAG, ZIG)))

    def test_one_broken(self):
        self.assertEqual(followed(RING, RING_PLAN, (0,)), (0, ((0, 1, 2), (1, 2))))
        self.assertEqual(followed(RING, RING_PLAN, (2,)), (2, ((0, 1, 2), (1, 2))))
        self.assertEqual(followed(RING, RING_ROW, (0,)), (0, ((0, 1),)))
        self.assertEqual(followed(KITE, KITE_PLAN, (1,)), (1, (ZAG, ZIG, RIGHT)))
        self.assertEqual(followed(KITE, KITE_PLAN, (4,)), (4, (ZAG, LEFT, RIGHT)))
        self.assertEqual(followed(KITE, KITE_PLAN, (0,)), (0, (ZAG, LEFT)))

    def test_two_broken(self):
        self.assertEqual(followed(RING, RING_PLAN, (0, 1)), (0, ((0, 1, 2), (1, 2))))
        self.assertEqual(followed(RING, RING_PLAN, (2, 1)), (2, ((0, 1, 2), (1, 2))))
        self.assertEqual(followed(KITE, KITE_PLAN, (2, 3)), (0, (ZAG, LEFT)))
        self.assertEqual(followed(KITE, KITE_PLAN, (4, 2)), (4, (ZAG, LEFT, RIGHT)))
        self.assertEqual(followed(KITE, KITE_PLAN, (3, 1)), (1, (ZAG, ZIG, RIGHT)))

    def test_all_broken(self):
        self.assertEqual(followed(KITE, KITE_PLAN, (4, 3, 2, 1, 0)), (0, (ZAG, LEFT)))

    def test_blind_ties(self):
        self.assertEqual(followed(ONE_RIM, WHOLE, (3,)), (None, ()))
        self.assertEqual(followed(HALF_BLIND, plan(HALF_BLIND), (2, 0)), (None, ((2, 3),)))
        self.assertEqual(followed(DUMBBELL, plan(DUMBBELL), (7,))[0], None)
        self.assertEqual(followed(DUMBBELL, plan(DUMBBELL), (7, 3))[0], 3)

    def test_any_tie_of_a_group_comes_to_its_first_one(self):
        for net in NETS + (EIGHT, LONG, TURNED):
            told = plan(net)
            for group in slow_twins(net, routes(net)):
                first = group[0] if group[0] in cases(net) else None
                for tie in group:
                    self.assertEqual(followed(net, told, (tie,))[0], first)

    def test_what_the_probes_show_leads_to_just_this_case(self):
        for net in (CHAIN, PARTED, RING, KITE, DUMBBELL, FULL):
            told = plan(net)
            ties = range(len(net[1]))
            for broken in [()] + [(tie,) for tie in ties] + list(combinations(ties, 2)):
                case, asked = followed(net, told, broken)
                part = told
                for route in asked:
                    self.assertEqual(part[:2], ("ask", route))
                    part = part[2] if slow_shows(net, (route,), broken) == (True,) else part[3]
                self.assertEqual(part, ("is", case))


if __name__ == "__main__":
    unittest.main()
