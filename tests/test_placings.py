"""[3] Placings, and what [1] says of them."""

import itertools
import unittest

from shardmove.clusters import Cluster
from shardmove.errors import BadPlacing, TooLarge
from shardmove.placings import is_placing, loads, placings
from tests.helpers import (EMPTY_SPECS, JUST_INSIDE, JUST_OUTSIDE, SPECS, WIDEST, Case, allowed, make, odd_values,
                           search_placings, spoiled)


def all_tuples(machines, longest):
    """Return all tuples of machines, also those that repeat one or are not in order."""
    return [row for many in range(longest + 1) for row in itertools.product(range(machines), repeat=many)]


class IsPlacingTest(Case):

    def test_every_placing_is_one(self):
        for spec in SPECS:
            cluster = make(spec)
            for placing in search_placings(spec):
                self.assertIs(is_placing(cluster, placing), True)

    def test_all_tuples_of_one_shard(self):
        for rooms, zones, alive, apart in itertools.product(
                ((1, 2, 3), (2, 2), (3, 1, 2, 2)), ((0, 0, 0, 0), (0, 1, 0, 1), (3, 2, 1, 0)), (1, 2), (False, True)):
            for size in (1, 2, 3):
                spec = (rooms, (size,), zones[:len(rooms)], 2, alive, apart)
                cluster = make(spec)
                for row in all_tuples(len(rooms), 4):
                    self.assertIs(is_placing(cluster, (row,)), allowed(spec, (row,)), (spec, row))

    def test_all_tuples_of_two_shards(self):
        for spec in SPECS:
            if len(spec[1]) == 2 and len(spec[0]) <= 3:
                cluster = make(spec)
                for value in itertools.product(all_tuples(len(spec[0]), 3), repeat=2):
                    self.assertIs(is_placing(cluster, value), allowed(spec, value), (spec, value))

    def test_one_thing_wrong(self):
        cluster = Cluster((3, 2, 2), (2, 1), zones=(0, 0, 1))
        self.assertIs(is_placing(cluster, ((0, 2), (0, 1))), True)
        wrong = {
            "not ascending": [((2, 0), (0, 1)), ((0, 2), (1, 0))],
            "a machine twice": [((0, 0), (1,)), ((0,), (1, 1)), ((0, 2), (0, 0, 1))],
            "no copy": [((), (0,)), ((0,), ()), ((), ())],
            "a machine that is not there": [((3,), (0,)), ((0,), (3,)), ((0,), (-1,)), ((-1, 0), (0,)), ((0, 3), (0,))],
            "too full": [((1,), (1,)), ((0, 1), (0, 1)), ((0, 2), (2,))],
            "too few shards": [(), ((0,),)],
            "too many shards": [((0,), (0,), (1,)), ((0,), (0,), ()), ((0,), (0,), None)],
            "lists": [[(0,), (0,)], ([0], (0,)), ((0,), [0]), [[0], [0]]],
            "no tuples within": [(0, 0), (0, (0,)), ("0", (0,)), ({0}, (0,)), ({0: 0}, (0,)), (range(1), (0,))],
        }
        for why, values in wrong.items():
            for value in values:
                self.assertIs(is_placing(cluster, value), False, (why, value))

    def test_exactly_full(self):
        for room in range(1, 7):
            cluster = Cluster((room, 6), (1, 2, 1, 2))
            for many, needed in ((1, 1), (2, 3), (3, 4), (4, 6)):
                value = ((0,),) * many + ((1,),) * (4 - many)
                self.assertIs(is_placing(cluster, value), needed <= room)

    def test_too_few_copies(self):
        cluster = Cluster((2, 2, 2), (1, 1), alive=2)
        for one, other in itertools.product(((0,), (0, 1), (0, 1, 2)), repeat=2):
            self.assertIs(is_placing(cluster, (one, other)), len(one) >= 2 and len(other) >= 2)

    def test_not_apart(self):
        zones = (0, 1, 0, 3)
        loose, strict = (Cluster((2,) * 4, (1, 1), zones=zones, apart=apart) for apart in (False, True))
        for value in (((0, 2), (1,)), ((1,), (0, 2)), ((0, 1, 2), (3,)), ((0, 2, 3), (0,))):
            self.assertIs(is_placing(loose, value), True)
            self.assertIs(is_placing(strict, value), False)
        for value in (((0, 1), (0, 3)), ((1, 2, 3), (0, 1, 3)), ((0,), (0,)), ((0,), (2,))):
            self.assertIs(is_placing(strict, value), True)

    def test_booleans_are_not_machines(self):
        cluster = Cluster((2, 2), (1, 1))
        for value in (((False,), (0,)), ((0,), (True,)), ((0, True), (0,)), ((False, 1), (0,)), ((0,), (False, True)),
                      (False, (0,)), (True, True)):
            self.assertIs(is_placing(cluster, value), False)

    def test_values_of_every_kind(self):
        cluster = Cluster((4, 4, 4), (2, 1))
        for placing in (((0,), (1,)), ((0, 1), (0, 1, 2))):
            self.assertIs(is_placing(cluster, placing), True)
            for value in spoiled(placing):
                self.assertIs(is_placing(cluster, value), False)

    def test_one_shard_is_a_tuple_in_a_tuple(self):
        cluster = Cluster((1, 1), (1,))
        self.assertIs(is_placing(cluster, ((0,),)), True)
        self.assertIs(is_placing(cluster, (0,)), False)
        self.assertIs(is_placing(cluster, ((0,), (1,))), False)

    def test_clusters_with_many_placings(self):
        cluster = make(WIDEST)
        self.assertIs(is_placing(cluster, ((0, 1, 2, 3),) * 4), True)
        self.assertIs(is_placing(cluster, ((0, 1, 2, 4),) * 4), False)


class PlacingsTest(Case):

    def test_all_of_them_in_order_and_none_else(self):
        for spec in SPECS:
            found = placings(make(spec))
            self.assertIsInstance(found, list)
            self.assertEqual(found, search_placings(spec), spec)

    def test_many_small_clusters(self):
        for rooms in ((1, 1), (3, 2), (1, 3, 2), (2, 2, 2)):
            for sizes in ((1,), (3,), (1, 2), (2, 1), (1, 1, 1)):
                for zones, alive, apart in itertools.product(((0, 0, 0), (1, 0, 1), (2, 3, 1)), (1, 2), (False, True)):
                    spec = (rooms, sizes, zones[:len(rooms)], 1, alive, apart)
                    self.assertEqual(placings(make(spec)), search_placings(spec), spec)

    def test_their_kinds(self):
        for placing in placings(make(SPECS[0])):
            self.assertIsInstance(placing, tuple)
            for machines in placing:
                self.assertIsInstance(machines, tuple)
                self.assertTrue(all(machine.__class__ is int for machine in machines))

    def test_the_far_price_does_not_matter(self):
        for far in (1, 2, 3):
            self.assertEqual(len(placings(Cluster((3, 2, 2), (2, 1), zones=(0, 0, 1), far=far))), 21)

    def test_clusters_without_placings(self):
        for spec in EMPTY_SPECS:
            self.assertEqual(placings(make(spec)), [])

    def test_exactly_2000(self):
        expected = search_placings(JUST_INSIDE)
        self.assertEqual(len(expected), 2000)
        self.assertEqual(placings(make(JUST_INSIDE)), expected)

    def test_more_than_2000(self):
        self.assertEqual(len(search_placings(JUST_OUTSIDE)), 2001)
        for spec in (JUST_OUTSIDE, WIDEST, ((6, 6, 6), (1, 1, 1, 1), (0, 1, 2), 1, 1, True)):
            self.refused(TooLarge, placings, make(spec))

    def test_too_large_changes_nothing(self):
        self.refused(TooLarge, placings, make(WIDEST))
        self.assertEqual(placings(make(SPECS[0])), search_placings(SPECS[0]))

    def test_each_list_is_new(self):
        for spec in SPECS:
            cluster = make(spec)
            first = placings(cluster)
            first[:] = [None]
            second = placings(cluster)
            self.assertEqual(second, search_placings(spec))
            second.clear()
            self.assertEqual(placings(make(spec)), search_placings(spec))


class LoadsTest(Case):

    def test_loads(self):
        for spec in SPECS:
            rooms, sizes = spec[0], spec[1]
            for placing in search_placings(spec):
                expected = [sum(size for size, machines in zip(sizes, placing) if machine in machines)
                            for machine in range(len(rooms))]
                found = loads(make(spec), placing)
                self.assertIsInstance(found, list)
                self.assertEqual(found, expected)

    def test_one_by_hand(self):
        cluster = Cluster((6, 5, 4, 3), (3, 2, 1))
        self.assertEqual(loads(cluster, ((0,), (0, 2), (0, 1, 2))), [6, 1, 3, 0])
        self.assertEqual(loads(make(WIDEST), ((0, 1, 2, 3),) * 4), [4, 4, 4, 4])

    def test_each_list_is_new(self):
        cluster = Cluster((6, 5), (3, 2))
        first = loads(cluster, ((0, 1), (0,)))
        first[0] = 9
        first.append(1)
        self.assertEqual(loads(cluster, ((0, 1), (0,))), [5, 3])
        self.assertEqual(cluster.rooms, (6, 5))

    def test_what_is_no_placing(self):
        cluster = Cluster((2, 2), (2, 1))
        for value in [*odd_values(), ((0,), (0,)), ((1, 0), (1,)), ((0,),), [(0,), (1,)], ((2,), (0,))]:
            self.refused(BadPlacing, loads, cluster, value)


if __name__ == "__main__":
    unittest.main()
