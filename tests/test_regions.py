"""[8] Regions, and what [1] says of them."""

import inspect
import unittest

from shardmove import regions as module
from shardmove.clusters import Cluster
from shardmove.errors import BadCluster, BadPlacing, TooLarge
from shardmove.regions import Regions, region, regions
from tests.graphs import ALL_SPECS, least_costs, listed
from tests.helpers import EMPTY_SPECS, JUST_INSIDE, JUST_OUTSIDE, WIDEST, Case, make


def expected_groups(spec):
    """Return the regions, found by the least costs from the first placing of each."""
    groups = []
    for placing in listed(spec):
        if not any(placing in group for group in groups):
            groups.append(sorted(least_costs(spec, placing)))
    return groups


class RegionsTest(Case):

    def test_against_a_search(self):
        for spec in ALL_SPECS:
            found = regions(make(spec))
            expected = expected_groups(spec)
            self.assertIs(found.__class__, Regions)
            self.assertIs(found.groups.__class__, list)
            self.assertTrue(all(group.__class__ is list for group in found.groups))
            self.assertEqual(found.groups, expected, spec)
            self.assertIs(found.shows(make(spec)), True)

    def test_each_placing_has_the_region_in_which_it_is(self):
        for spec in ALL_SPECS:
            cluster = make(spec)
            for group in expected_groups(spec):
                for placing in {group[0], group[-1], group[len(group) // 2]}:
                    found = region(cluster, placing)
                    self.assertIs(found.__class__, list)
                    self.assertEqual(found, group)

    def test_regions_by_hand(self):
        cluster = Cluster((2, 2), (2, 1), zones=(0, 1))
        self.assertEqual(regions(cluster).groups, [[((0,), (1,))], [((1,), (0,))]])
        cluster = Cluster((1, 1), (1,))
        self.assertEqual(regions(cluster).groups, [[((0,),), ((0, 1),), ((1,),)]])
        self.assertEqual(region(cluster, ((1,),)), [((0,),), ((0, 1),), ((1,),)])

    def test_no_placing_at_all(self):
        for spec in EMPTY_SPECS:
            self.assertEqual(regions(make(spec)).groups, [])
            self.assertIs(Regions([]).shows(make(spec)), True)
            self.assertIs(Regions([[]]).shows(make(spec)), False)
            self.refused(BadPlacing, region, make(spec), ((0,),))

    def test_shows_asks_for_just_the_regions_in_order(self):
        for spec in ALL_SPECS:
            cluster, groups = make(spec), expected_groups(spec)
            changed = [[], [[]], groups[1:], groups[:-1], groups + [groups[0]], groups + [[]], [[]] + groups,
                       [groups[0] + groups[0][:1]] + groups[1:], [groups[0][1:]] + groups[1:],
                       groups[:-1] + [groups[-1][:-1]], [[placing] for placing in listed(spec)], [list(listed(spec))],
                       [group[::-1] for group in groups], groups[::-1],
                       [groups[0] + groups[-1]] + groups[1:-1], [groups[0][:1], groups[0][1:]] + groups[1:]]
            for value in changed:
                self.assertIs(Regions(value).shows(cluster), value == groups, (spec, value))

    def test_of_another_cluster(self):
        found = regions(Cluster((1, 1, 1), (1, 1)))
        self.assertIs(found.shows(Cluster((1, 1), (1, 1))), False)
        self.assertIs(found.shows(Cluster((1, 1, 1), (1, 1), zones=(0, 1, 2), far=3)), True)
        self.assertIs(found.shows(Cluster((1, 1, 2), (1, 1))), False)

    def test_exactly_2000_and_more(self):
        inside = make(JUST_INSIDE)
        every = list(listed(JUST_INSIDE))
        self.assertEqual(regions(inside).groups, [every])
        self.assertIs(Regions([every]).shows(inside), True)
        self.assertEqual(region(inside, every[7]), every)
        for spec in (JUST_OUTSIDE, WIDEST):
            outside, placing = make(spec), listed(spec)[0]
            self.refused(TooLarge, regions, outside)
            self.refused(TooLarge, region, outside, placing)
            self.refused(TooLarge, Regions([]).shows, outside)
            self.refused(TooLarge, Regions([[placing]]).shows, outside)


class ArgumentsTest(Case):

    def test_interface(self):
        parameters = {"regions": ["cluster"], "region": ["cluster", "placing"], "Regions": ["groups"]}
        for name, names in parameters.items():
            self.assertEqual(list(inspect.signature(getattr(module, name)).parameters), names)
            self.assertEqual(getattr(module, name).__module__, "shardmove.regions")
        self.assertEqual(list(inspect.signature(vars(Regions)["shows"]).parameters)[1:], ["cluster"])
        self.assertIn("__eq__", vars(Regions))

    def test_what_is_handed_in_is_copied(self):
        groups = [[((0,),), ((1,),)], [((0, 1),)]]
        found = Regions(groups)
        groups[0].append(((0, 1),))
        groups.pop()
        self.assertEqual(found.groups, [[((0,),), ((1,),)], [((0, 1),)]])
        found.groups[0].clear()
        self.assertEqual(groups, [[((0,),), ((1,),), ((0, 1),)]])

    def test_what_is_returned_is_new(self):
        cluster = Cluster((1, 1), (1,))
        expected = [((0,),), ((0, 1),), ((1,),)]
        first = regions(cluster)
        first.groups[0].clear()
        first.groups.clear()
        region(cluster, ((0,),)).clear()
        self.assertEqual(regions(cluster).groups, [expected])
        self.assertEqual(region(cluster, ((0,),)), expected)

    def test_shows_looks_at_the_current_attribute(self):
        cluster = Cluster((1, 1), (1, 1))
        found = regions(cluster)
        last = found.groups.pop()
        self.assertIs(found.shows(cluster), False)
        found.groups.append(last)
        self.assertIs(found.shows(cluster), True)
        found.groups[0].append(last[0])
        self.assertIs(found.shows(cluster), False)
        found.groups = [[((0,), (1,))], [((1,), (0,))]]
        self.assertIs(found.shows(cluster), True)

    def test_equal_objects(self):
        self.assertTrue(Regions([[((0,),)], []]) == Regions([[((0,),)], []]))
        self.assertFalse(Regions([[((0,),)], []]) == Regions([[], [((0,),)]]))
        self.assertTrue(Regions([]) != Regions([[]]))

    def test_the_order_of_errors(self):
        self.assertIsNone(self.refused(BadCluster, region, None, None).part)
        self.assertIsNone(self.refused(BadCluster, Regions([]).shows, None).part)
        self.refused(BadPlacing, region, make(WIDEST), None)
        self.refused(BadPlacing, region, make(WIDEST), ((4,), (0,), (0,), (0,)))

    def test_by_keyword(self):
        cluster = Cluster((1, 1), (1,))
        self.assertEqual(regions(cluster=cluster), Regions(groups=[region(cluster=cluster, placing=((0,),))]))
        self.assertIs(regions(cluster).shows(cluster=cluster), True)


if __name__ == "__main__":
    unittest.main()
