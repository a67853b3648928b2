"""[5] Plans and [6] musts, and what [1] says of them."""

import inspect
import itertools
import unittest

from shardmove import plans as module
from shardmove.clusters import Cluster
from shardmove.errors import NoWay, TooLarge
from shardmove.plans import Knot, Plan, can_move, least_cost, musts, plan
from tests.graphs import (ALL_SPECS, changed_floors, changed_lists, edges, end, is_knot, is_plan, least_costs, listed,
                          pairs, spent_on)
from tests.helpers import JUST_INSIDE, JUST_OUTSIDE, WIDEST, Case, candidates, make

ROW = ((2, 2, 1), (2, 1), (0, 1, 1), 2, 1, False)
ONE, OTHER = ((0,), (1,)), ((1,), (0,))
WAY = (("copy", 1, 1, 2), ("drop", 1, 1), ("copy", 0, 0, 1), ("drop", 0, 0), ("copy", 1, 2, 0), ("drop", 1, 2))
TIGHT = ((2, 2), (2, 1), (0, 0), 1, 1, False)

# More than 2000 placings in one region: from these placings, exactly so many cost at most so much.
BALLS = [
    (((5, 5, 5, 6), (2, 1, 3), (3, 2, 1, 2), 2, 1, False), ((0,), (2, 3), (0, 2)), 23, 2000),
    (((4, 3, 3, 3), (1, 1, 2), (3, 3, 0, 1), 2, 1, False), ((2,), (0, 1, 3), (0, 2)), 16, 2000),
    (((5, 4, 4, 4), (2, 1, 2), (1, 1, 3, 0), 3, 1, False), ((0, 2, 3), (0,), (0, 1, 3)), 19, 2001),
    (((5, 5, 4, 3), (1, 2, 2), (0, 0, 3, 0), 3, 1, False), ((2,), (0, 1), (0, 1, 3)), 22, 2001),
]


def joined_pairs(spec, most):
    """Return some pairs of placings between which there is a way."""
    return [(one, other) for one, other in pairs(spec, most) if other in least_costs(spec, one)]


def changed_ways(spec, way):
    """Return ways that differ from a way: steps left out, doubled, swapped, replaced or added."""
    found = [(), way[::-1], way + way]
    for at in range(len(way)):
        found.append(way[:at] + way[at + 1:])
        found.append(way[:at] + way[at:at + 1] + way[at:])
        found.append(way[:at] + way[at + 1:at + 2] + way[at:at + 1] + way[at + 2:])
        for step in candidates(spec):
            found.append(way[:at] + (step,) + way[at + 1:])
        for step in (("copy", 0), ("drop", 0), ("move", 0, 0), ("copy", 0, 0), ("drop", 0, 0, 1), ("copy", 0, -1, 1),
                     ("drop", -1, 0), ("copy", 9, 0, 1), ("drop", 0, 9), ("drop", 0, -1), ("", 0, 0, 0)):
            found.append(way[:at] + (step,) + way[at + 1:])
            found.append(way[:at] + (step,) + way[at:])
    return found


def longer_ways(spec, one, other, way):
    """Return ways to the same placing that make a step and undo it, or go a dearer way round."""
    found = []
    for step, result, _ in edges(spec, one):
        for back, again, _ in edges(spec, result):
            if again == one:
                found.append((step, back) + way)
    return found


class PlanTest(Case):

    def check(self, spec, one, other, found):
        """Check a plan or a knot against the document."""
        costs = least_costs(spec, one)
        if other in costs:
            self.assertIs(found.__class__, Plan)
            self.assertIs(found.way.__class__, tuple)
            self.assertIs(found.floors.__class__, dict)
            self.assertEqual(spent_on(spec, found.way), costs[other])
            self.assertTrue(is_plan(spec, one, other, found.way, found.floors), (spec, one, other))
            self.assertTrue(all(floor.__class__ is int for floor in found.floors.values()))
        else:
            self.assertIs(found.__class__, Knot)
            self.assertIs(found.placings.__class__, list)
            self.assertTrue(is_knot(spec, one, other, found.placings), (spec, one, other))
        self.assertIs(found.shows(make(spec), one, other), True)

    def test_against_a_search(self):
        for spec in ALL_SPECS:
            cluster = make(spec)
            for one, other in pairs(spec, 50):
                self.check(spec, one, other, plan(cluster, one, other))

    def test_least_costs_against_a_search(self):
        for spec in ALL_SPECS:
            cluster = make(spec)
            for one, other in pairs(spec, 80):
                costs = least_costs(spec, one)
                self.assertEqual(least_cost(cluster, one, other), costs.get(other), (spec, one, other))
                self.assertIs(can_move(cluster, one, other), other in costs)

    def test_floors_may_be_those_of_what_is_left(self):
        for one, other in joined_pairs(ROW, 999):
            left = {placing: least_costs(ROW, placing)[other] for placing in listed(ROW)}
            way = plan(make(ROW), one, other).way
            self.assertIs(Plan(way, left).shows(make(ROW), one, other), True)
            self.assertIs(Plan(way, dict(reversed(left.items()))).shows(make(ROW), one, other), True)

    def test_any_cheapest_way_is_shown(self):
        found = plan(make(ROW), ONE, OTHER)
        self.assertEqual(spent_on(ROW, found.way), 10)
        for way in itertools.permutations(WAY):
            right = end(ROW, ONE, way) == OTHER
            self.assertIs(Plan(way, found.floors).shows(make(ROW), ONE, OTHER), right)
        self.assertIs(Plan(WAY, {ONE: 10}).shows(make(ROW), ONE, OTHER), False)

    def test_changed_ways(self):
        for spec in (ROW, ALL_SPECS[1], ALL_SPECS[7]):
            for one, other in joined_pairs(spec, 8):
                found = plan(make(spec), one, other)
                for way in changed_ways(spec, found.way) + longer_ways(spec, one, other, found.way):
                    right = is_plan(spec, one, other, way, found.floors)
                    self.assertIs(Plan(way, found.floors).shows(make(spec), one, other), right, (spec, one, other, way))

    def test_a_step_left_out_and_a_way_that_is_too_dear(self):
        found = plan(make(ROW), ONE, OTHER)
        for at in range(6):
            way = found.way[:at] + found.way[at + 1:]
            self.assertIs(Plan(way, found.floors).shows(make(ROW), ONE, OTHER), False)
        dear = (("copy", 1, 1, 2), ("drop", 1, 2)) + WAY
        self.assertEqual(end(ROW, ONE, dear), OTHER)
        self.assertIs(Plan(dear, found.floors).shows(make(ROW), ONE, OTHER), False)
        self.assertIs(Plan(dear, {**found.floors, ONE: 12}).shows(make(ROW), ONE, OTHER), False)
        self.assertIs(Plan((), found.floors).shows(make(ROW), ONE, OTHER), False)

    def test_changed_floors(self):
        for spec in (ROW, ALL_SPECS[1], ALL_SPECS[7], ALL_SPECS[11]):
            for one, other in joined_pairs(spec, 12):
                found = plan(make(spec), one, other)
                for floors in changed_floors(found.floors, [other, *listed(spec)[:2]]):
                    right = is_plan(spec, one, other, found.way, floors)
                    self.assertIs(Plan(found.way, floors).shows(make(spec), one, other), right, (spec, one, floors))

    def test_a_floor_too_low_and_a_floor_at_the_last_placing(self):
        left = {placing: least_costs(ROW, placing)[OTHER] for placing in listed(ROW)}
        self.assertIs(Plan(WAY, left).shows(make(ROW), ONE, OTHER), True)
        self.assertIs(Plan(WAY, {**left, ONE: 9}).shows(make(ROW), ONE, OTHER), False)
        self.assertIs(Plan(WAY, {**left, ONE: 11}).shows(make(ROW), ONE, OTHER), False)
        self.assertIs(Plan(WAY, {**left, OTHER: 1}).shows(make(ROW), ONE, OTHER), False)
        for floor in (0, -1, -99):
            self.assertIs(Plan(WAY, {**left, OTHER: floor}).shows(make(ROW), ONE, OTHER), True)
        without = {placing: floor for placing, floor in left.items() if placing != OTHER}
        self.assertIs(Plan(WAY, without).shows(make(ROW), ONE, OTHER), True)

    def test_floors_that_no_step_reaches_may_be_high(self):
        spec = ALL_SPECS[6]
        one, other = listed(spec)
        self.assertIs(Plan((), {other: 10 ** 30}).shows(make(spec), one, one), True)
        self.assertIs(Plan((), {one: 1}).shows(make(spec), one, one), False)
        self.assertIs(Plan((), {one: 0, other: -5}).shows(make(spec), one, one), True)

    def test_a_placing_to_itself(self):
        for spec in ALL_SPECS + [WIDEST]:
            one = ((0,),) * 4 if spec == WIDEST else listed(spec)[-1]
            found = plan(make(spec), one, one)
            self.assertEqual(found.way, ())
            self.assertIs(found.shows(make(spec), one, one), True)
            self.assertIs(Plan((), {}).shows(make(spec), one, one), True)
            self.assertIs(Knot([one]).shows(make(spec), one, one), False)
            self.assertEqual(least_cost(make(spec), one, one), 0)
            self.assertIs(can_move(make(spec), one, one), True)
            self.assertEqual(musts(make(spec), one, one), [])

    def test_a_way_from_a_placing_to_itself_costs_too_much(self):
        way = (("copy", 0, 0, 1), ("drop", 0, 1))
        for floors in ({}, {ONE: 3}, {ONE: 3, ((0, 1), (1,)): 1}):
            self.assertIs(Plan(way, floors).shows(make(ROW), ONE, ONE), False)

    def test_no_way(self):
        tight = make(TIGHT)
        self.assertEqual(plan(tight, ONE, OTHER), Knot([ONE]))
        self.assertIsNone(least_cost(tight, ONE, OTHER))
        self.assertIs(can_move(tight, ONE, OTHER), False)
        self.assertIs(Knot([ONE]).shows(tight, ONE, OTHER), True)
        self.assertIs(Plan((), {}).shows(tight, ONE, OTHER), False)

    def test_changed_knots(self):
        some = 0
        for spec in ALL_SPECS:
            for one, other in pairs(spec, 20):
                found = plan(make(spec), one, other)
                if isinstance(found, Knot):
                    some += 1
                    others = [other, *listed(spec)[::5]]
                    for placings in changed_lists(found.placings, others) + [list(listed(spec))]:
                        right = is_knot(spec, one, other, placings)
                        self.assertIs(Knot(placings).shows(make(spec), one, other), right, (spec, one, placings))
        self.assertGreater(some, 30)

    def test_a_knot_where_there_is_a_way(self):
        for one, other in joined_pairs(ROW, 999):
            for placings in ([one], [], list(listed(ROW)), [each for each in listed(ROW) if each != other]):
                self.assertIs(Knot(placings).shows(make(ROW), one, other), False)

    def test_knots_of_several_regions(self):
        spec = ALL_SPECS[15]
        one, other, third = self.firsts(spec)[:3]
        region, more = list(least_costs(spec, one)), list(least_costs(spec, third))
        self.assertIs(Knot(region + more).shows(make(spec), one, other), True)
        self.assertIs(Knot(more + region).shows(make(spec), one, other), True)
        self.assertIs(Knot(more).shows(make(spec), one, other), False)
        self.assertIs(Knot(region + [other]).shows(make(spec), one, other), False)
        self.assertIs(Knot(region + more[1:]).shows(make(spec), one, other), False)

    def firsts(self, spec):
        """Return a placing of each region."""
        found = []
        for placing in listed(spec):
            if not any(placing in least_costs(spec, one) for one in found):
                found.append(placing)
        return found

    def test_of_another_cluster(self):
        found = plan(make(ROW), ONE, OTHER)
        self.assertIs(found.shows(make(TIGHT), ONE, OTHER), False)
        self.assertIs(found.shows(Cluster((2, 2, 1), (2, 1), zones=(0, 1, 1), far=3), ONE, OTHER), False)
        self.assertIs(found.shows(make(ROW), ONE, ONE), False)
        self.assertIs(found.shows(make(ROW), OTHER, ONE), False)
        self.assertIs(plan(make(TIGHT), ONE, OTHER).shows(make(ROW), ONE, OTHER), False)


class MustsTest(Case):

    def test_against_a_search(self):
        shorter = 0
        for spec in ALL_SPECS:
            for one, other in pairs(spec, 25):
                costs = least_costs(spec, one)
                if other not in costs:
                    self.refused(NoWay, musts, make(spec), one, other)
                    continue
                expected = [step for step in candidates(spec)
                            if least_costs(spec, one, without=step).get(other) != costs[other]]
                found = musts(make(spec), one, other)
                self.assertIs(found.__class__, list)
                self.assertEqual(found, expected, (spec, one, other))
                shorter += len(found) < len(plan(make(spec), one, other).way)
        self.assertGreater(shorter, 50)

    def test_in_order(self):
        self.assertEqual(musts(make(ROW), ONE, OTHER), sorted(WAY))
        self.assertEqual(sorted(WAY)[:3], [("copy", 0, 0, 1), ("copy", 1, 1, 2), ("copy", 1, 2, 0)])

    def test_a_step_that_is_done_twice_stands_once(self):
        spec = ALL_SPECS[1]
        one, other = ((2,), (1,)), ((1,), (2,))
        way = plan(make(spec), one, other).way
        self.assertEqual((way.count(("drop", 0, 2)), len(way)), (2, 12))
        self.assertEqual(musts(make(spec), one, other), sorted(set(way)))

    def test_none_that_all_have(self):
        cluster = Cluster((1, 1, 1, 1), (1,), zones=(0, 0, 0, 0))
        self.assertEqual(musts(cluster, ((0, 1),), ((2, 3),)), [("drop", 0, 0), ("drop", 0, 1)])
        self.assertEqual(musts(cluster, ((0,),), ((1, 2),)), [("drop", 0, 0)])
        self.assertEqual(musts(cluster, ((0,),), ((0, 1, 2),)), [])

    def test_no_way(self):
        self.refused(NoWay, musts, make(TIGHT), ONE, OTHER)

    def test_each_list_is_new(self):
        found = musts(make(ROW), ONE, OTHER)
        expected = list(found)
        found.clear()
        self.assertEqual(musts(make(ROW), ONE, OTHER), expected)


class LimitTest(Case):

    def each(self, spec, one, other):
        """Return the results of the functions with a limit."""
        return [function(make(spec), one, other) for function in (plan, least_cost, can_move, musts)]

    def all_too_large(self, spec, one, other):
        for function in (plan, least_cost, can_move, musts):
            self.refused(TooLarge, function, make(spec), one, other)

    def test_exactly_2000_and_more(self):
        for spec, one, most, count in BALLS:
            costs = least_costs(spec, one)
            self.assertEqual(sum(cost <= most for cost in costs.values()), count)
            self.assertLess(sum(cost < most for cost in costs.values()), 2000)
            by_cost = {cost: placing for placing, cost in costs.items()}
            beyond = min(cost for cost in by_cost if cost > most)
            found = self.each(spec, one, by_cost[most])
            self.assertEqual(found[1:3], [most, True])
            self.assertIs(found[0].shows(make(spec), one, by_cost[most]), True)
            if count > 2000:
                self.all_too_large(spec, one, by_cost[beyond])
            else:
                found = self.each(spec, one, by_cost[beyond])
                self.assertEqual(found[1:3], [beyond, True])
                self.assertIs(found[0].shows(make(spec), one, by_cost[beyond]), True)
                self.assertEqual(max(found[0].floors.values()), beyond)
            self.all_too_large(spec, one, by_cost[max(by_cost)])

    def test_not_due_however_many_placings_there_are(self):
        one, other = ((0,),) * 4, ((0,), (0, 2), (0, 1), (0,))
        found = self.each(WIDEST, one, other)
        self.assertEqual(found[1:], [2, True, [("copy", 1, 0, 2), ("copy", 2, 0, 1)]])
        self.assertIs(found[0].shows(make(WIDEST), one, other), True)

    def test_far_away_among_many(self):
        self.all_too_large(WIDEST, ((0,),) * 4, ((3,),) * 4)

    def test_shows_has_no_limit(self):
        way = tuple(("copy", shard, 0, 3) for shard in range(4)) + tuple(("drop", shard, 0) for shard in range(4))
        one, other = ((0,),) * 4, ((3,),) * 4
        self.assertIs(Plan(way, {one: 8}).shows(make(WIDEST), one, other), False)
        self.assertIs(Knot([one]).shows(make(WIDEST), one, other), False)
        left = {each: sum((3 not in row) + len(set(row) - {3}) for row in each) for each in listed(WIDEST)}
        self.assertEqual((len(left), left[one]), (50625, 8))
        self.assertIs(Plan(way, left).shows(make(WIDEST), one, other), True)

    def test_a_region_of_2000(self):
        every = listed(JUST_INSIDE)
        found = self.each(JUST_INSIDE, every[0], every[-1])
        self.assertEqual(found[1], least_costs(JUST_INSIDE, every[0])[every[-1]])
        self.assertIs(found[0].shows(make(JUST_INSIDE), every[0], every[-1]), True)

    def test_the_last_of_2001(self):
        # Less than 2001 placings cost less than the dearest one, so it can be found.
        every = listed(JUST_OUTSIDE)
        costs = least_costs(JUST_OUTSIDE, every[0])
        self.assertEqual(len(costs), 2001)
        dearest = max(costs, key=costs.get)
        self.assertEqual(least_cost(make(JUST_OUTSIDE), every[0], dearest), costs[dearest])


class ObjectsTest(Case):

    def test_interface(self):
        parameters = {"plan": ["cluster", "one", "other"], "least_cost": ["cluster", "one", "other"],
                      "can_move": ["cluster", "one", "other"], "musts": ["cluster", "one", "other"],
                      "Plan": ["way", "floors"], "Knot": ["placings"]}
        for name, names in parameters.items():
            self.assertEqual(list(inspect.signature(getattr(module, name)).parameters), names)
            self.assertEqual(getattr(module, name).__module__, "shardmove.plans")
        for kind in (Plan, Knot):
            self.assertEqual(list(inspect.signature(vars(kind)["shows"]).parameters)[1:], ["cluster", "one", "other"])
            self.assertIn("__eq__", vars(kind))

    def test_what_is_handed_in_is_copied(self):
        floors, placings = {ONE: 3, OTHER: 0}, [ONE]
        first, second = Plan(WAY, floors), Knot(placings)
        floors[ONE] = 4
        floors[((0,), (0,))] = 1
        placings.append(OTHER)
        self.assertEqual((first.way, first.floors), (WAY, {ONE: 3, OTHER: 0}))
        self.assertEqual(second.placings, [ONE])
        first.floors.clear()
        second.placings.clear()
        self.assertEqual((len(floors), len(placings)), (3, 2))

    def test_by_keyword(self):
        self.assertEqual(Plan(floors={ONE: 1}, way=WAY), Plan(WAY, {ONE: 1}))
        self.assertEqual(Knot(placings=[ONE]), Knot([ONE]))
        cluster = make(ROW)
        self.assertEqual(plan(cluster=cluster, one=ONE, other=OTHER), plan(cluster, ONE, OTHER))
        self.assertIs(plan(cluster, ONE, OTHER).shows(cluster=cluster, one=ONE, other=OTHER), True)
        self.assertIs(Knot([ONE]).shows(cluster=cluster, one=ONE, other=OTHER), False)

    def test_what_is_returned_is_new(self):
        cluster = make(ROW)
        found = plan(cluster, ONE, OTHER)
        expected = dict(found.floors)
        found.floors.clear()
        self.assertEqual(plan(cluster, ONE, OTHER).floors, expected)
        tight = make(TIGHT)
        plan(tight, ONE, OTHER).placings.append(OTHER)
        self.assertEqual(plan(tight, ONE, OTHER).placings, [ONE])

    def test_shows_looks_at_the_current_attributes(self):
        cluster = make(ROW)
        found = plan(cluster, ONE, OTHER)
        floor = found.floors.pop(ONE)
        self.assertIs(found.shows(cluster, ONE, OTHER), False)
        found.floors[ONE] = floor
        self.assertIs(found.shows(cluster, ONE, OTHER), True)
        found.way = found.way[1:]
        self.assertIs(found.shows(cluster, ONE, OTHER), False)
        found.way = WAY
        self.assertIs(found.shows(cluster, ONE, OTHER), True)
        found.floors = {}
        self.assertIs(found.shows(cluster, ONE, OTHER), False)
        knot = Knot([])
        self.assertIs(knot.shows(make(TIGHT), ONE, OTHER), False)
        knot.placings.append(ONE)
        self.assertIs(knot.shows(make(TIGHT), ONE, OTHER), True)
        knot.placings = [ONE, OTHER]
        self.assertIs(knot.shows(make(TIGHT), ONE, OTHER), False)

    def test_shows_changes_nothing(self):
        found = plan(make(ROW), ONE, OTHER)
        before = (found.way, list(found.floors.items()))
        found.shows(make(ROW), ONE, OTHER)
        found.shows(make(ROW), OTHER, ONE)
        self.assertEqual((found.way, list(found.floors.items())), before)
        knot = Knot([OTHER, ONE, ONE])
        knot.shows(make(ROW), ONE, OTHER)
        self.assertEqual(knot.placings, [OTHER, ONE, ONE])

    def test_equal_objects(self):
        self.assertTrue(Plan(WAY, {ONE: 1, OTHER: 0}) == Plan(WAY, {OTHER: 0, ONE: 1}))
        self.assertFalse(Plan(WAY, {ONE: 1}) == Plan(WAY, {ONE: 2}))
        self.assertFalse(Plan(WAY, {ONE: 1}) == Plan(WAY, {ONE: 1, OTHER: 0}))
        self.assertFalse(Plan(WAY, {ONE: 1}) == Plan(WAY[1:], {ONE: 1}))
        self.assertTrue(Plan(WAY, {}) != Plan((), {}))
        self.assertTrue(Knot([ONE, OTHER]) == Knot([ONE, OTHER]))
        self.assertFalse(Knot([ONE, OTHER]) == Knot([OTHER, ONE]))
        self.assertTrue(Knot([ONE]) != Knot([]))


if __name__ == "__main__":
    unittest.main()
