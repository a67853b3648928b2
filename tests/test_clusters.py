"""[2] Clusters, and what [1] says of them."""

import inspect
import itertools
import unittest

from shardmove import clusters
from shardmove.clusters import Cluster
from shardmove.errors import BadCluster
from tests.helpers import Case, Own, SPECS, make, odd_values, spoiled

RIGHT = {"rooms": (3, 2, 2), "sizes": (2, 1), "zones": (0, 0, 1), "far": 3, "alive": 2, "apart": True}
WRONG = {"rooms": (3, 2, 7), "sizes": (2, 0), "zones": (0, 0, 4), "far": 4, "alive": 3, "apart": 1}
PROPERTIES = ["rooms", "sizes", "zones", "far", "alive", "apart"]


def values_of(cluster):
    return tuple(getattr(cluster, name) for name in PROPERTIES)


class ClusterTest(Case):

    def part_of(self, **changes):
        """Return the part that is refused when some parameters are changed."""
        return self.refused(BadCluster, Cluster, **{**RIGHT, **changes}).part

    def accepted(self, **changes):
        cluster = Cluster(**{**RIGHT, **changes})
        self.assertEqual(values_of(cluster), tuple({**RIGHT, **changes}.values()))

    def test_interface(self):
        self.assertEqual(Cluster.__module__, "shardmove.clusters")
        found = inspect.signature(Cluster).parameters
        self.assertEqual(list(found), PROPERTIES)
        self.assertEqual([found[name].default for name in PROPERTIES[2:]], [None, 1, 1, False])
        for name in PROPERTIES[2:]:
            self.assertEqual(found[name].kind, inspect.Parameter.KEYWORD_ONLY)
        for name in PROPERTIES:
            self.assertIn(name, vars(clusters.Cluster))
        self.assertIn("__eq__", vars(clusters.Cluster))

    def test_properties(self):
        for spec in SPECS:
            self.assertEqual(values_of(make(spec)), spec)

    def test_what_is_left_out(self):
        self.assertEqual(values_of(Cluster((1, 6), (3,))), ((1, 6), (3,), (0, 0), 1, 1, False))
        for many in (2, 3, 4):
            cluster = Cluster((2,) * many, (1,), zones=None)
            self.assertEqual(cluster.zones, (0,) * many)
            self.assertIsInstance(cluster.zones, tuple)
        self.assertIs(Cluster((1, 6), (3,)).apart, False)

    def test_by_position_and_by_keyword(self):
        self.assertEqual(Cluster(sizes=(1, 2), rooms=(3, 4)), Cluster((3, 4), (1, 2)))
        self.assertRaises(TypeError, Cluster, (3, 4), (1, 2), (0, 0))
        self.assertRaises(TypeError, Cluster, (3, 4))

    def test_numbers_of_machines(self):
        for many in (2, 3, 4):
            self.accepted(rooms=(4,) * many, zones=tuple(range(many)))
        for many in (0, 1, 5, 6, 100):
            self.assertEqual(self.part_of(rooms=(4,) * many), "ROOMS")
            self.assertEqual(self.part_of(rooms=(4,) * many, zones=(0,) * many), "ROOMS")
            self.assertEqual(self.refused(BadCluster, Cluster, (4,) * many, (1,)).part, "ROOMS")

    def test_numbers_of_shards(self):
        for many in (1, 2, 3, 4):
            self.accepted(sizes=(1,) * many)
        for many in (0, 5, 6, 100):
            self.assertEqual(self.part_of(sizes=(1,) * many), "SIZES")

    def test_limits_of_rooms(self):
        for at in range(3):
            for room in range(-2, 10):
                rooms = RIGHT["rooms"][:at] + (room,) + RIGHT["rooms"][at + 1:]
                if 1 <= room <= 6:
                    self.accepted(rooms=rooms)
                else:
                    self.assertEqual(self.part_of(rooms=rooms), "ROOMS")

    def test_limits_of_sizes(self):
        for at in range(2):
            for size in range(-2, 8):
                sizes = RIGHT["sizes"][:at] + (size,) + RIGHT["sizes"][at + 1:]
                if 1 <= size <= 3:
                    self.accepted(sizes=sizes)
                else:
                    self.assertEqual(self.part_of(sizes=sizes), "SIZES")

    def test_sizes_may_be_larger_than_every_room(self):
        self.accepted(rooms=(1, 1, 1), sizes=(3, 3, 3, 3))

    def test_limits_of_zones(self):
        for at in range(3):
            for zone in range(-2, 8):
                zones = RIGHT["zones"][:at] + (zone,) + RIGHT["zones"][at + 1:]
                if 0 <= zone <= 3:
                    self.accepted(zones=zones)
                else:
                    self.assertEqual(self.part_of(zones=zones), "ZONES")

    def test_one_zone_for_each_machine(self):
        for machines, many in itertools.product((2, 3, 4), range(7)):
            if many == machines:
                self.accepted(rooms=(2,) * machines, zones=(1,) * many)
            else:
                self.assertEqual(self.part_of(rooms=(2,) * machines, zones=(1,) * many), "ZONES")

    def test_limits_of_far_and_alive(self):
        for number in range(-3, 8):
            if 1 <= number <= 3:
                self.accepted(far=number)
            else:
                self.assertEqual(self.part_of(far=number), "FAR")
            if 1 <= number <= 2:
                self.accepted(alive=number)
            else:
                self.assertEqual(self.part_of(alive=number), "ALIVE")

    def test_apart_is_a_boolean(self):
        for apart in (True, False):
            self.accepted(apart=apart)
            self.assertIs(Cluster((1, 1), (1,), apart=apart).apart, apart)
        for number in (0, 1, 2, -1):
            self.assertEqual(self.part_of(apart=number), "APART")

    def test_booleans_are_not_integers(self):
        for boolean in (True, False):
            self.assertEqual(self.part_of(far=boolean), "FAR")
            self.assertEqual(self.part_of(alive=boolean), "ALIVE")
            for at in range(3):
                rooms = RIGHT["rooms"][:at] + (boolean,) + RIGHT["rooms"][at + 1:]
                self.assertEqual(self.part_of(rooms=rooms), "ROOMS")
                zones = RIGHT["zones"][:at] + (boolean,) + RIGHT["zones"][at + 1:]
                self.assertEqual(self.part_of(zones=zones), "ZONES")
            self.assertEqual(self.part_of(sizes=(boolean, 1)), "SIZES")
            self.assertEqual(self.part_of(sizes=(1, boolean)), "SIZES")
            self.assertEqual(self.part_of(sizes=(boolean,)), "SIZES")

    def test_only_tuples(self):
        for name in ("rooms", "sizes", "zones"):
            right = RIGHT[name]
            for other in (list(right), dict.fromkeys(right, 1), set(right), iter(right), range(1, 4), "111", b"111"):
                self.assertEqual(self.part_of(**{name: other}), name.upper())

    def test_values_of_every_kind(self):
        for name in ("rooms", "sizes", "zones"):
            for value in spoiled(RIGHT[name]):
                if name != "zones" or value is not None:
                    self.assertEqual(self.part_of(**{name: value}), name.upper())
        for name in ("far", "alive", "apart"):
            for value in odd_values():
                if name != "apart" or not isinstance(value, bool):
                    self.assertEqual(self.part_of(**{name: value}), name.upper())

    def test_the_first_part_that_is_wrong(self):
        for many in range(1, 7):
            for names in itertools.combinations(PROPERTIES, many):
                changes = {name: WRONG[name] for name in names}
                self.assertEqual(self.part_of(**changes), names[0].upper())
                changes = {name: Own() for name in names}
                self.assertEqual(self.part_of(**changes), names[0].upper())

    def test_equal_clusters(self):
        for one, other in itertools.product(SPECS, SPECS):
            self.assertIs(make(one) == make(other), one == other)
            self.assertIs(make(one) != make(other), one != other)
        self.assertEqual(Cluster((2, 2), (1,)), Cluster((2, 2), (1,), zones=(0, 0), far=1, alive=1, apart=False))

    def test_unequal_in_one_thing(self):
        others = {"rooms": (3, 2, 1), "sizes": (2, 2), "zones": (0, 1, 1), "far": 2, "alive": 1, "apart": False}
        self.assertEqual(list(others), PROPERTIES)
        for name, value in others.items():
            self.assertFalse(Cluster(**RIGHT) == Cluster(**{**RIGHT, name: value}), name)
            self.assertTrue(Cluster(**RIGHT) != Cluster(**{**RIGHT, name: value}), name)
        self.assertFalse(Cluster((2, 1), (1,)) == Cluster((1, 2), (1,)))
        self.assertFalse(Cluster((2, 1), (1, 2)) == Cluster((2, 1), (2, 1)))

    def test_clusters_do_not_change(self):
        cluster = Cluster(**RIGHT)
        for name in PROPERTIES:
            with self.assertRaises(AttributeError):
                setattr(cluster, name, RIGHT[name])
        self.assertEqual(values_of(cluster), tuple(RIGHT.values()))
        Cluster((1, 1), (1,))
        self.assertEqual(values_of(cluster), tuple(RIGHT.values()))


if __name__ == "__main__":
    unittest.main()
