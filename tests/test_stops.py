"""[11] Stops, and what [1] says of them."""

import inspect
import itertools
import unittest

from shardmove import stops as module
from shardmove.clusters import Cluster
from shardmove.errors import BadCluster, BadPlacing, BadSteps, TooLarge
from shardmove.plans import Plan, least_cost, plan
from shardmove.stops import back, detours, forward, left, turning
from tests.graphs import ALL_SPECS, edges, least, least_costs, listed, pairs
from tests.helpers import WIDEST, Case, LooksLikeACluster, make, odd_values, search_after, spoiled

ROW = ((3, 3), (2, 1), (0, 0), 1, 1, False)
PLACING = ((0,), (1,))
WAY = [("copy", 1, 1, 0), ("copy", 0, 0, 1), ("drop", 1, 0), ("drop", 0, 0)]
SEARCHES = [forward, back, turning, detours]
ALL = [left, *SEARCHES]

# Copies are dear here, and drops are not: from this placing, whatever needs two copies is too large.
DEAR = ((6, 6, 6, 6), (1, 1, 1, 1), (0, 1, 2, 3), 3, 1, False)
EVERYWHERE = ((0, 1, 2, 3),) * 4
DROPS = [("drop", 0, 0), ("drop", 1, 1)]
COPIES = [("copy", 0, 1, 0), ("copy", 1, 0, 1)]


def walked(spec, placing, way):
    """Return the placings before, between and after the steps of a way."""
    found = [placing]
    for step in way:
        found.append(search_after(spec, found[-1], step))
    return found


def wandering(spec, start, many, stride):
    """Return a way of so many steps that goes here and there, and often where it has been before."""
    here, way = start, []
    for at in range(many):
        possible = edges(spec, here)
        if not possible:
            break
        step, here, _ = possible[(at * stride + at // 3) % len(possible)]
        way.append(step)
    return way


def cases():
    """Yield clusters with a placing and a way."""
    for spec in ALL_SPECS:
        every = listed(spec)
        for at, stride in enumerate((1, 2, 3, 5, 7)):
            start = every[(at * len(every)) // 5]
            yield spec, start, wandering(spec, start, (3, 8, 12, 1, 5)[at], stride)
        for one, other in pairs(spec, 3):
            found = plan(make(spec), one, other)
            if isinstance(found, Plan):
                yield spec, one, list(found.way)


class StopsTest(Case):

    def test_against_a_search(self):
        twice = 0
        for spec, placing, way in cases():
            cluster, passed = make(spec), walked(spec, placing, way)
            once = [each for at, each in enumerate(passed) if each not in passed[:at]]
            twice += len(once) < len(passed)
            on = {each: least_costs(spec, each)[passed[-1]] for each in once}
            home = {each: least_costs(spec, each)[placing] for each in once}
            self.assertEqual(left(cluster, placing, way), once)
            self.assertEqual(list(forward(cluster, placing, way).items()), list(on.items()), (spec, placing, way))
            self.assertEqual(list(back(cluster, placing, way).items()), list(home.items()), (spec, placing, way))
            turns = [at for at, each in enumerate(passed) if on[each] < home[each]]
            self.assertEqual(turning(cluster, placing, way), turns[0] if turns else len(way), (spec, placing, way))
            around = [at for at in range(len(way)) if on[passed[at + 1]] >= on[passed[at]]]
            self.assertEqual(detours(cluster, placing, way), around, (spec, placing, way))
        self.assertGreater(twice, 30)

    def test_kinds(self):
        for way in (WAY, tuple(WAY), [], ()):
            cluster = make(ROW)
            kinds = [function(cluster, PLACING, way).__class__ for function in ALL]
            self.assertEqual(kinds, [list, dict, dict, int, list])
            self.assertEqual([function(cluster, PLACING, way) for function in ALL],
                             [function(cluster, PLACING, list(way)) for function in ALL])

    def test_no_steps(self):
        for spec in ALL_SPECS + [WIDEST]:
            one = ((0,),) * 4 if spec == WIDEST else listed(spec)[0]
            for way in ([], ()):
                found = [function(make(spec), one, way) for function in ALL]
                self.assertEqual(found, [[one], {one: 0}, {one: 0}, 0, []])

    def test_in_the_order_in_which_the_way_comes_to_them_first(self):
        way = [("copy", 1, 1, 0), ("drop", 1, 0), ("copy", 1, 1, 0), ("drop", 1, 1), ("copy", 1, 0, 1)]
        expected = [((0,), (1,)), ((0,), (0, 1)), ((0,), (0,))]
        for function in (left, forward, back):
            self.assertEqual(list(function(make(ROW), PLACING, way)), expected)
            self.assertEqual(list(function(make(ROW), PLACING, way[:2])), expected[:2])
        self.assertEqual(forward(make(ROW), PLACING, way), {expected[0]: 1, expected[1]: 0, expected[2]: 1})
        self.assertEqual(back(make(ROW), PLACING, way), {expected[0]: 0, expected[1]: 1, expected[2]: 2})

    def test_not_sorted(self):
        way = [("copy", 0, 0, 1), ("drop", 0, 0)]
        backwards = [("copy", 0, 1, 0), ("drop", 0, 1)]
        expected = [((0,), (0,)), ((0, 1), (0,)), ((1,), (0,))]
        for function in (left, forward, back):
            self.assertEqual(list(function(make(ROW), ((0,), (0,)), way)), expected)
            self.assertEqual(list(function(make(ROW), ((1,), (0,)), backwards)), expected[::-1])

    def test_there_and_back(self):
        # The last placing is the first one, so going on never costs less than going back.
        way = [("copy", 0, 0, 1), ("drop", 0, 1)]
        expected = {((0,), (1,)): 0, ((0, 1), (1,)): 1}
        for function in (forward, back):
            self.assertEqual(function(make(ROW), PLACING, way), expected)
        self.assertEqual(turning(make(ROW), PLACING, way), 2)
        self.assertEqual(detours(make(ROW), PLACING, way), [0])

    def test_the_turning_point(self):
        # 3, 4, 2, 1, 0 and 0, 1, 2, 1, 3: as much is not less.
        self.assertEqual(turning(make(ROW), PLACING, WAY), 4)
        for many, expected in ((1, 1), (2, 2), (3, 2)):
            self.assertEqual(turning(make(ROW), PLACING, WAY[:many]), expected)
        # After the first time, it does not matter.
        there = [("copy", 0, 0, 1), ("drop", 0, 0), ("copy", 0, 1, 0), ("copy", 1, 1, 0)]
        self.assertEqual(turning(make(ROW), PLACING, there[:2]), 2)
        again = [("copy", 1, 1, 0), ("drop", 1, 0), ("copy", 1, 1, 0)]
        self.assertEqual(turning(make(ROW), PLACING, again), 1)
        # It can be passed again and again.
        self.assertEqual(turning(make(ROW), PLACING, again + [("drop", 1, 0), ("copy", 1, 1, 0)]), 1)

    def test_detours(self):
        self.assertEqual(detours(make(ROW), PLACING, WAY), [0])
        # A copy that is dropped again at once: both are for nothing, but the second one leads on again.
        way = [("copy", 1, 1, 0), ("drop", 1, 0), *WAY[1:2], *WAY[3:]]
        self.assertEqual(detours(make(ROW), PLACING, way), [0])
        # A drop of what is still needed; a step after which going on costs as much.
        spec = ((4, 4, 4), (1,), (0, 0, 0), 1, 1, False)
        way = [("drop", 0, 0), ("copy", 0, 1, 0), ("drop", 0, 1)]
        self.assertEqual(list(forward(make(spec), ((0, 1),), way).values()), [1, 2, 0])
        self.assertEqual(detours(make(spec), ((0, 1),), way), [0])
        spec = ((4, 4, 4), (1,), (0, 1, 1), 2, 1, False)
        way = [("copy", 0, 0, 1), ("copy", 0, 1, 2), ("drop", 0, 1), ("drop", 0, 0)]
        self.assertEqual(list(forward(make(spec), ((0,),), way).values()), [3, 3, 2, 1, 0])
        self.assertEqual(detours(make(spec), ((0,),), way), [0])

    def test_a_way_that_is_not_the_cheapest(self):
        found = plan(make(ROW), PLACING, ((1,), (1,)))
        way = [("copy", 1, 1, 0), ("drop", 1, 0), *found.way]
        self.assertEqual(forward(make(ROW), PLACING, way)[PLACING], 3)
        self.assertEqual(left(make(ROW), PLACING, way)[:2], [PLACING, ((0,), (0, 1))])

    def test_what_is_left_of_a_cheapest_way(self):
        # Nothing on a cheapest way is a detour, and going on costs just what the other steps cost.
        for spec in ALL_SPECS:
            for one, other in pairs(spec, 10):
                found = plan(make(spec), one, other)
                if isinstance(found, Plan):
                    passed = walked(spec, one, found.way)
                    self.assertEqual(left(make(spec), one, found.way), passed)
                    self.assertEqual(detours(make(spec), one, found.way), [])
                    costs = [least_cost(make(spec), one, other)] + [None] * len(found.way)
                    for at, step in enumerate(found.way):
                        price = next(price for each, _, price in edges(spec, passed[at]) if each == step)
                        costs[at + 1] = costs[at] - price
                    self.assertEqual(list(forward(make(spec), one, found.way).values()), costs)

    def test_long_ways(self):
        way = [("copy", 1, 1, 0), ("drop", 1, 0)] * 2000
        self.assertEqual(left(make(ROW), PLACING, way), [PLACING, ((0,), (0, 1))])
        self.assertEqual(forward(make(ROW), PLACING, way), {PLACING: 0, ((0,), (0, 1)): 1})
        self.assertEqual(turning(make(ROW), PLACING, way), 4000)
        self.assertEqual(detours(make(ROW), PLACING, way), list(range(0, 4000, 2)))


class LimitTest(Case):

    def test_what_is_too_large_here(self):
        fewer = walked(DEAR, EVERYWHERE, DROPS)[-1]
        self.assertEqual(least(DEAR, EVERYWHERE, fewer), 2)
        self.assertEqual(least(DEAR, fewer, EVERYWHERE), "TooLarge")

    def check(self, placing, way, due):
        """Check for which of the functions it is too large."""
        for function in ALL:
            if function in due:
                self.refused(TooLarge, function, make(DEAR), placing, way)
            else:
                function(make(DEAR), placing, way)

    def test_going_back_is_too_large(self):
        self.check(EVERYWHERE, DROPS, [back, turning])
        self.assertEqual(list(forward(make(DEAR), EVERYWHERE, DROPS).values()), [2, 1, 0])
        self.assertEqual(detours(make(DEAR), EVERYWHERE, DROPS), [])

    def test_going_on_is_too_large(self):
        fewer = walked(DEAR, EVERYWHERE, DROPS)[-1]
        self.check(fewer, COPIES, [forward, turning, detours])
        self.assertEqual(list(back(make(DEAR), fewer, COPIES).values()), [0, 1, 2])

    def test_neither_is_too_large(self):
        for placing, way in ((EVERYWHERE, DROPS[:1]), (EVERYWHERE, []), (EVERYWHERE, [DROPS[0], COPIES[0]])):
            self.check(placing, way, [])
        self.assertEqual(turning(make(DEAR), EVERYWHERE, DROPS[:1]), 1)
        self.assertEqual(list(back(make(DEAR), EVERYWHERE, DROPS[:1]).values()), [0, 3])

    def test_only_from_a_placing_in_between(self):
        self.check(EVERYWHERE, [*DROPS, *COPIES], SEARCHES)
        fewer = walked(DEAR, EVERYWHERE, DROPS)[-1]
        # Two copies and two drops: only the first and the last placing are twice copies away from those between.
        self.check(fewer, [*COPIES, *DROPS], [])
        self.check(fewer, COPIES[:1], [])

    def test_from_a_placing_after_the_turning_point(self):
        fewer = walked(DEAR, EVERYWHERE, DROPS[:1])[-1]
        way = [DROPS[0], ("drop", 2, 2), ("drop", 3, 3), ("copy", 2, 0, 2), ("copy", 3, 0, 3)]
        passed = walked(DEAR, EVERYWHERE, way)
        self.assertEqual(passed[-1], fewer)
        on, home = (least(DEAR, passed[1], end) for end in (passed[-1], passed[0]))
        self.assertEqual((on, home), (0, 3))
        self.assertEqual(turning(make(DEAR), EVERYWHERE, way[:1]), 1)
        self.check(EVERYWHERE, way, SEARCHES)

    def test_only_going_back_from_after_the_turning_point(self):
        way = [*DROPS, ("drop", 2, 2)]
        self.assertEqual(list(forward(make(DEAR), EVERYWHERE, way).values()), [3, 2, 1, 0])
        self.check(EVERYWHERE, way, [back, turning])

    def test_left_has_no_limit(self):
        way = [("copy", shard, 0, 3) for shard in range(4)] + [("drop", shard, 0) for shard in range(4)]
        passed = walked(WIDEST, ((0,),) * 4, way)
        self.assertEqual(left(make(WIDEST), ((0,),) * 4, way), passed)
        for function in SEARCHES:
            self.refused(TooLarge, function, make(WIDEST), ((0,),) * 4, way)


class RefusalsTest(Case):

    def test_what_is_no_cluster(self):
        for value in [*odd_values(), Cluster, ROW, LooksLikeACluster()]:
            for function in ALL:
                self.assertIsNone(self.refused(BadCluster, function, value, PLACING, WAY).part)

    def test_what_is_no_placing(self):
        for value in spoiled(PLACING) + [((2,), (1,)), ((0,),), [(0,), (1,)], ((0,), (1, 0)), ((0, 1), (0, 1), (0,))]:
            for function in ALL:
                self.refused(BadPlacing, function, make(ROW), value, WAY)

    def test_what_is_no_list_or_tuple(self):
        for value in [*odd_values(), {("copy", 1, 1, 0): 1}, iter(WAY), "copy", range(0)]:
            if not isinstance(value, (list, tuple)):
                for function in ALL:
                    self.assertIsNone(self.refused(BadSteps, function, make(ROW), PLACING, value).index)

    def test_what_are_no_steps(self):
        wrong = spoiled(WAY[0]) + [list(WAY[0]), ("copy", 1, 0, 1), ("drop", 1, 1), ("copy", 1, 1, 1), ("drop", 2, 0)]
        for value in wrong:
            for at in (0, 2):
                way = [*[("copy", 1, 1, 0), ("drop", 1, 0)][:at], value, *WAY]
                for function in ALL:
                    for each in (way, tuple(way)):
                        self.assertEqual(self.refused(BadSteps, function, make(ROW), PLACING, each).index, at)

    def test_the_first_wrong_step(self):
        for function in ALL:
            for at in range(4):
                way = WAY[:at] + [("drop", 0, 1)] * 3 + [None]
                expected = at + 1 if at > 1 else at
                self.assertEqual(self.refused(BadSteps, function, make(ROW), PLACING, way).index, expected)
            self.assertEqual(self.refused(BadSteps, function, make(ROW), PLACING, [*WAY, None]).index, 4)

    def test_the_error_that_is_documented_first(self):
        for bad, way in itertools.product((None, True, 99, "no", ((9,),) * 4), (None, [None], "", DROPS)):
            for function in ALL:
                self.assertIsNone(self.refused(BadCluster, function, bad, bad, way).part)
                self.assertIsNone(self.refused(BadCluster, function, bad, EVERYWHERE, way).part)
                self.refused(BadPlacing, function, make(DEAR), bad, way)
                expected = 0 if isinstance(bad, tuple) else None
                self.assertEqual(self.refused(BadSteps, function, make(DEAR), EVERYWHERE, bad).index, expected)

    def test_wrong_steps_come_before_what_is_too_large(self):
        for function in ALL:
            found = self.refused(BadSteps, function, make(DEAR), EVERYWHERE, [*DROPS, *COPIES, COPIES[0]])
            self.assertEqual(found.index, 4)


class ResultsTest(Case):

    def test_interface(self):
        for name in ("left", "forward", "back", "turning", "detours"):
            function = getattr(module, name)
            self.assertEqual(list(inspect.signature(function).parameters), ["cluster", "placing", "way"])
            self.assertEqual((function.__module__, function.__name__), ("shardmove.stops", name))
            self.assertEqual(function(cluster=make(ROW), placing=PLACING, way=WAY), function(make(ROW), PLACING, WAY))

    def test_what_is_returned_is_new(self):
        for function in (left, forward, back):
            found = function(make(ROW), PLACING, WAY)
            expected = found.copy()
            found.clear()
            self.assertEqual(function(make(ROW), PLACING, WAY), expected)
        found = detours(make(ROW), PLACING, WAY)
        found.append(9)
        self.assertEqual(detours(make(ROW), PLACING, WAY), [0])

    def test_the_arguments_stay_as_they_are(self):
        cluster, way = make(ROW), list(WAY)
        for function in ALL:
            function(cluster, PLACING, way)
            self.refused(BadSteps, function, cluster, PLACING, way + [None])
            self.assertEqual((cluster, way), (make(ROW), WAY))


if __name__ == "__main__":
    unittest.main()
