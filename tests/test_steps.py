"""[4] Steps, and what [1] says of them."""

import itertools
import unittest

from shardmove.clusters import Cluster
from shardmove.errors import BadStep, BadSteps
from shardmove.placings import after, cost, price, steps, walk
from tests.helpers import (SPECS, WIDEST, Case, Own, Same, candidates, make, odd_values, search_after, search_placings,
                           search_price, spoiled)


def some_way(spec, placing, many, seed):
    """Return a way and its placings, each step picked among the possible ones by a fixed rule."""
    way, passed = [], [placing]
    for at in range(many):
        possible = [step for step in candidates(spec) if search_after(spec, passed[-1], step)]
        if not possible:
            break
        way.append(possible[(seed + 7 * at * at + 3 * at) % len(possible)])
        passed.append(search_after(spec, passed[-1], way[-1]))
    return way, passed


class StepsTest(Case):

    def test_all_of_them_in_order_and_none_else(self):
        for spec in SPECS:
            cluster = make(spec)
            for placing in search_placings(spec):
                expected = [step for step in candidates(spec) if search_after(spec, placing, step)]
                found = steps(cluster, placing)
                self.assertIsInstance(found, list)
                self.assertEqual(found, expected, (spec, placing))

    def test_their_kinds(self):
        for step in steps(Cluster((3, 3, 3), (1, 1)), ((0, 1), (2,))):
            self.assertIsInstance(step, tuple)
            self.assertIs(step[0].__class__, str)
            self.assertTrue(all(number.__class__ is int for number in step[1:]))

    def test_one_by_hand(self):
        cluster = Cluster((3, 2, 3, 2), (2, 1), zones=(0, 1, 1, 2), apart=True)
        self.assertEqual(steps(cluster, ((0, 2), (1,))), [
            ("copy", 0, 0, 3), ("copy", 0, 2, 3), ("copy", 1, 1, 0), ("copy", 1, 1, 3), ("drop", 0, 0), ("drop", 0, 2)])

    def test_none(self):
        self.assertEqual(steps(Cluster((1, 1), (1, 1)), ((0,), (1,))), [])

    def test_clusters_with_many_placings(self):
        self.assertEqual(len(steps(make(WIDEST), ((0,),) * 4)), 12)
        self.assertEqual(len(steps(make(WIDEST), ((0, 1, 2, 3),) * 4)), 16)

    def test_each_list_is_new(self):
        cluster = make(SPECS[0])
        first = steps(cluster, ((0,), (0,)))
        expected = list(first)
        first.clear()
        second = steps(cluster, ((0,), (0,)))
        self.assertEqual(second, expected)
        second[0] = None
        self.assertEqual(steps(make(SPECS[0]), ((0,), (0,))), expected)


class AfterAndPriceTest(Case):

    def test_all_steps_that_can_be_written(self):
        for spec in SPECS:
            cluster = make(spec)
            for placing in search_placings(spec):
                for step in candidates(spec):
                    expected = search_after(spec, placing, step)
                    if expected is None:
                        self.refused(BadStep, after, cluster, placing, step)
                        self.refused(BadStep, price, cluster, placing, step)
                    else:
                        self.assertEqual(after(cluster, placing, step), expected)
                        self.assertEqual(price(cluster, placing, step), search_price(spec, step))

    def test_prices(self):
        for size, far in itertools.product((1, 2, 3), repeat=2):
            cluster = Cluster((3, 3, 3), (size,), zones=(2, 2, 0), far=far)
            self.assertEqual(price(cluster, ((0,),), ("copy", 0, 0, 1)), size)
            self.assertEqual(price(cluster, ((0,),), ("copy", 0, 0, 2)), size * far)
            self.assertEqual(price(cluster, ((2,),), ("copy", 0, 2, 0)), size * far)
            self.assertEqual(price(cluster, ((0, 2),), ("drop", 0, 0)), 1)
            self.assertEqual(price(cluster, ((0, 2),), ("drop", 0, 2)), 1)

    def test_the_price_is_that_of_the_source(self):
        cluster = Cluster((2, 2, 2), (2,), zones=(0, 1, 1), far=3)
        self.assertEqual(price(cluster, ((0, 1),), ("copy", 0, 0, 2)), 6)
        self.assertEqual(price(cluster, ((0, 1),), ("copy", 0, 1, 2)), 2)

    def test_the_new_copy_stands_in_order(self):
        cluster = Cluster((2, 2, 2, 2), (1, 1))
        self.assertEqual(after(cluster, ((1, 3), (2,)), ("copy", 0, 3, 0)), ((0, 1, 3), (2,)))
        self.assertEqual(after(cluster, ((1, 3), (2,)), ("copy", 0, 1, 2)), ((1, 2, 3), (2,)))
        self.assertEqual(after(cluster, ((1, 3), (2,)), ("copy", 1, 2, 1)), ((1, 3), (1, 2)))
        self.assertEqual(after(cluster, ((1, 3), (2,)), ("drop", 0, 1)), ((3,), (2,)))

    def test_why_a_step_is_not_possible(self):
        cluster = Cluster((3, 2, 2, 3), (2, 1), zones=(0, 0, 1, 2), apart=True)
        placing = ((0, 2), (1,))
        wrong = {
            "no copy on the source": [("copy", 0, 1, 3), ("copy", 0, 3, 3), ("copy", 1, 0, 2)],
            "a copy on the target": [("copy", 0, 0, 2), ("copy", 0, 2, 0), ("copy", 0, 0, 0), ("copy", 1, 1, 1)],
            "no room": [("copy", 1, 1, 2)],
            "not apart": [("copy", 0, 0, 1), ("copy", 1, 1, 0)],
            "no copy to drop": [("drop", 0, 1), ("drop", 0, 3), ("drop", 1, 0)],
            "too few left alive": [("drop", 1, 1)],
        }
        for why, values in wrong.items():
            for step in values:
                with self.subTest(why, step=step):
                    self.refused(BadStep, after, cluster, placing, step)
                    self.refused(BadStep, price, cluster, placing, step)
        self.assertEqual(after(cluster, placing, ("copy", 1, 1, 3)), ((0, 2), (1, 3)))
        twice = Cluster((3, 3, 3), (1,), alive=2)
        self.assertEqual(after(twice, ((0, 1, 2),), ("drop", 0, 1)), ((0, 2),))
        self.refused(BadStep, after, twice, ((0, 2),), ("drop", 0, 0))

    def test_only_the_room_of_the_target_counts(self):
        cluster = Cluster((2, 3), (2, 1))
        self.assertEqual(after(cluster, ((0,), (1,)), ("copy", 0, 0, 1)), ((0, 1), (1,)))
        self.refused(BadStep, after, cluster, ((0,), (1,)), ("copy", 1, 1, 0))

    def test_what_is_written_like_no_step(self):
        cluster = Cluster((6, 6, 6), (1, 1))
        placing = ((0, 1), (0, 1))
        wrong = [
            ("copy", 0, 0), ("copy", 0, 0, 2, 0), ("copy",), ("copy", 0), ("drop",), ("drop", 0), ("drop", 0, 0, 1),
            ("drop", 0, 1, 2), ("drop", 0, 0, 0), ("copy", (0, 0, 2)), (("copy", 0, 0, 2),), (0, 0, 2), (0, 0, 0, 2),
            ("Copy", 0, 0, 2), ("copy ", 0, 0, 2), ("move", 0, 0, 2), ("c", 0, 0, 2), ("", 0, 0, 2), ("DROP", 0, 0),
            (b"copy", 0, 0, 2), (b"drop", 0, 0), (["copy"], 0, 0, 2), (None, 0, 0), ("delete", 0, 0),
            ("copy", "0", 0, 2), ("copy", 0, 0, "2"), ("drop", 0, "0"),
            ["copy", 0, 0, 2], ["drop", 0, 0], {"drop": 0}, "drop", "copy 0 0 2",
            ("copy", 2, 0, 2), ("copy", -1, 0, 2), ("copy", -2, 0, 2), ("copy", 0, -2, 2), ("copy", 0, -3, 2),
            ("copy", 0, 0, -1), ("copy", 0, 0, 3), ("copy", 0, 3, 2), ("drop", 2, 0), ("drop", -1, 0), ("drop", 0, -1),
            ("drop", 0, -2), ("drop", 0, 3), ("copy", 10 ** 30, 0, 2), ("drop", 0, 10 ** 5000),
        ]
        for step in wrong:
            self.refused(BadStep, after, cluster, placing, step)
            self.refused(BadStep, price, cluster, placing, step)
            self.assertEqual(self.refused(BadSteps, walk, cluster, placing, [step]).index, 0)

    def test_booleans_are_not_integers(self):
        cluster = Cluster((6, 6, 6), (1, 1))
        placing = ((0, 1), (0, 1))
        for step in (("copy", False, 0, 2), ("copy", True, 0, 2), ("copy", 0, False, 2), ("copy", 0, True, 2),
                     ("drop", False, 0), ("drop", True, 0), ("drop", 0, False), ("drop", 0, True)):
            self.refused(BadStep, after, cluster, placing, step)
            self.refused(BadStep, price, cluster, placing, step)
        for step in (("copy", 0, 2, True), ("copy", 0, 2, False)):
            self.refused(BadStep, after, cluster, ((2,), (0, 1)), step)
            self.refused(BadStep, price, cluster, ((2,), (0, 1)), step)

    def test_values_of_every_kind(self):
        cluster = Cluster((6, 6, 6), (1, 1))
        placing = ((0, 1), (0, 1))
        for right in (("copy", 1, 1, 2), ("copy", 0, 0, 2), ("drop", 1, 1), ("drop", 0, 0)):
            for step in spoiled(right):
                self.refused(BadStep, after, cluster, placing, step)
                self.refused(BadStep, price, cluster, placing, step)


class WalkAndCostTest(Case):

    def test_ways_as_lists_and_tuples(self):
        for spec in SPECS:
            cluster = make(spec)
            for seed, placing in enumerate(search_placings(spec)[:40]):
                way, passed = some_way(spec, placing, 12, seed)
                total = sum(search_price(spec, step) for step in way)
                for kind in (list, tuple):
                    found = walk(cluster, placing, kind(way))
                    self.assertIsInstance(found, list)
                    self.assertEqual(found, passed)
                    self.assertEqual(cost(cluster, placing, kind(way)), total)

    def test_the_empty_way(self):
        for spec in SPECS:
            for placing in search_placings(spec)[:3]:
                for way in ([], ()):
                    self.assertEqual(walk(make(spec), placing, way), [placing])
                    self.assertEqual(cost(make(spec), placing, way), 0)

    def test_one_by_hand(self):
        cluster = Cluster((2, 2, 1), (2, 1), zones=(0, 1, 1), far=2)
        way = (("copy", 1, 1, 2), ("drop", 1, 1), ("copy", 0, 0, 1), ("drop", 0, 0), ("copy", 1, 2, 0), ("drop", 1, 2))
        self.assertEqual(walk(cluster, ((0,), (1,)), way), [
            ((0,), (1,)), ((0,), (1, 2)), ((0,), (2,)), ((0, 1), (2,)), ((1,), (2,)), ((1,), (0, 2)), ((1,), (0,))])
        self.assertEqual(cost(cluster, ((0,), (1,)), way), 10)

    def test_a_long_way(self):
        cluster = Cluster((1, 1), (1,), zones=(0, 1), far=3)
        way = [("copy", 0, 0, 1), ("drop", 0, 0), ("copy", 0, 1, 0), ("drop", 0, 1)] * 500
        self.assertEqual(walk(cluster, ((0,),), way), [((0,),), ((0, 1),), ((1,),), ((0, 1),)] * 500 + [((0,),)])
        self.assertEqual(cost(cluster, ((0,),), way), 4000)
        self.assertEqual(self.refused(BadSteps, walk, cluster, ((0,),), way + way[1:]).index, 2000)

    def test_the_index_of_the_first_wrong_step(self):
        cluster = Cluster((2, 2, 1), (2, 1), zones=(0, 1, 1), far=2)
        way = [("copy", 1, 1, 2), ("drop", 1, 1), ("copy", 0, 0, 1), ("drop", 0, 0), ("copy", 1, 2, 0), ("drop", 1, 2)]
        for at in range(len(way)):
            for wrong in [*odd_values(), ("drop", 1, 0, 0), list(way[at]), way[at] + (0,), way[at][:-1] + (True,)]:
                changed = way[:at] + [wrong] + way[at + 1:]
                for kind, function in itertools.product((list, tuple), (walk, cost)):
                    error = self.refused(BadSteps, function, cluster, ((0,), (1,)), kind(changed))
                    self.assertIs(error.index.__class__, int)
                    self.assertEqual(error.index, at)

    def test_steps_that_were_possible_before(self):
        cluster = Cluster((2, 2, 2), (1, 1))
        one = ((0,), (1,))
        for way, index in [
                ([("copy", 0, 0, 1), ("copy", 0, 0, 1)], 1),
                ([("copy", 0, 0, 1), ("drop", 0, 0), ("drop", 0, 1)], 2),
                ([("copy", 0, 0, 1), ("drop", 0, 0), ("copy", 0, 0, 2)], 2),
                ([("copy", 0, 0, 1), ("copy", 1, 1, 0), ("drop", 0, 0), ("copy", 0, 1, 0), ("drop", 0, 2)], 4),
                ([("drop", 0, 0), ("copy", 0, 0, 1)], 0),
                ([("drop", 0, 0), None, 3], 0)]:
            for function in (walk, cost):
                self.assertEqual(self.refused(BadSteps, function, cluster, one, way).index, index)
        self.assertEqual(cost(cluster, one, [("copy", 0, 0, 1), ("drop", 0, 0), ("copy", 0, 1, 0)]), 3)

    def test_the_order_of_steps_matters(self):
        cluster = Cluster((1, 1, 1), (1, 1))
        way = [("copy", 0, 0, 2), ("drop", 0, 0), ("copy", 1, 1, 0)]
        self.assertEqual(walk(cluster, ((0,), (1,)), way)[-1], ((2,), (0, 1)))
        self.assertEqual(self.refused(BadSteps, walk, cluster, ((0,), (1,)), way[::-1]).index, 0)

    def test_what_is_no_list_or_tuple(self):
        cluster = Cluster((2, 2), (1, 1))
        right = [("copy", 0, 0, 1)]
        others = [value for value in odd_values() if not isinstance(value, (list, tuple))]
        others += [iter(right), dict.fromkeys(right), set(right), dict.fromkeys(right).keys(),
                   (step for step in right), Own(), Same(), "", {}]
        for way in others:
            for function in (walk, cost):
                self.assertIsNone(self.refused(BadSteps, function, cluster, ((0,), (1,)), way).index)

    def test_a_step_is_not_a_way(self):
        cluster = Cluster((2, 2), (1, 1))
        for function in (walk, cost):
            self.assertEqual(self.refused(BadSteps, function, cluster, ((0,), (1,)), ("copy", 0, 0, 1)).index, 0)

    def test_arguments_are_neither_modified_nor_kept(self):
        cluster = Cluster((2, 2), (1, 1))
        way = [("copy", 0, 0, 1), ("drop", 0, 0)]
        for function in (walk, cost):
            function(cluster, ((0,), (1,)), way)
            self.assertEqual(way, [("copy", 0, 0, 1), ("drop", 0, 0)])
        wrong = [("copy", 0, 0, 1), None]
        self.refused(BadSteps, walk, cluster, ((0,), (1,)), wrong)
        self.assertEqual(wrong, [("copy", 0, 0, 1), None])
        found = walk(cluster, ((0,), (1,)), way)
        way.clear()
        self.assertEqual(found, [((0,), (1,)), ((0, 1), (1,)), ((1,), (1,))])

    def test_each_list_is_new(self):
        cluster = Cluster((2, 2), (1, 1))
        for way in ([], (), [("copy", 0, 0, 1)], (("copy", 0, 0, 1),)):
            first = walk(cluster, ((0,), (1,)), way)
            expected = list(first)
            first.clear()
            self.assertEqual(walk(cluster, ((0,), (1,)), way), expected)


if __name__ == "__main__":
    unittest.main()
