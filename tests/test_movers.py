"""[7] Movers, and what [1] says of them."""

import inspect
import unittest

from shardmove import movers as module
from shardmove.errors import BadMovers, TooLarge
from shardmove.movers import Movers, cost_with, least_movers, movers
from tests.graphs import (ALL_SPECS, changed_lists, decided, is_movers, least_costs, listed, pairs, sets_of_shards)
from tests.helpers import JUST_INSIDE, JUST_OUTSIDE, WIDEST, Case, make

NARROW = ((3, 3, 1), (2, 2, 1), (0, 0, 0), 1, 1, False)
WIDE = ((3, 3, 2), (2, 2, 1), (0, 0, 0), 1, 1, False)
ONE, OTHER = ((0,), (1,), (0,)), ((1,), (0,), (0,))
PASSING = ((2, 2, 4, 2), (1, 1, 2, 2), (0, 0, 1, 0), 1, 1, True)


class MoversTest(Case):

    def test_against_a_search(self):
        several = 0
        for spec in ALL_SPECS:
            cluster = make(spec)
            for one, other in pairs(spec, 25):
                found = movers(cluster, one, other)
                least, greatest = decided(spec, one, other)
                self.assertEqual(list(found.ways), least, (spec, one, other))
                self.assertEqual(list(found.knots), greatest, (spec, one, other))
                self.assertTrue(is_movers(spec, one, other, found.ways, found.knots), (spec, one, other))
                self.assertIs(found.shows(cluster, one, other), True)
                self.assertEqual(least_movers(cluster, one, other), least)
                several += len(greatest) > 1
        self.assertGreater(several, 50)

    def test_kinds(self):
        found = movers(make(WIDE), ONE, OTHER)
        for table, kind in ((found.ways, tuple), (found.knots, list)):
            self.assertIs(table.__class__, dict)
            for some, value in table.items():
                self.assertIs(some.__class__, tuple)
                self.assertIs(value.__class__, kind)
        self.assertIs(least_movers(make(WIDE), ONE, OTHER).__class__, list)

    def test_the_order_of_sets_is_by_size_first(self):
        # Shard 3 has to pass by the full machine 2: either shard 2 makes room, or both of the small ones.
        one, other = ((2,), (2,), (2,), (0,)), ((2,), (2,), (2,), (1,))
        found = movers(make(PASSING), one, other)
        self.assertEqual(list(found.ways), [(2, 3), (0, 1, 3)])
        self.assertEqual(list(found.knots), [(0, 3), (1, 3), (0, 1, 2)])
        self.assertEqual(decided(PASSING, one, other), (list(found.ways), list(found.knots)))
        self.assertEqual(least_movers(make(PASSING), one, other), [(2, 3), (0, 1, 3)])
        self.assertIs(found.shows(make(PASSING), one, other), True)

    def test_costs_against_a_search(self):
        for spec in ALL_SPECS:
            cluster = make(spec)
            for one, other in pairs(spec, 15):
                for some in sets_of_shards(spec):
                    expected = least_costs(spec, one, some).get(other)
                    self.assertEqual(cost_with(cluster, one, other, some), expected, (spec, one, other, some))

    def test_fewer_movers_may_cost_more(self):
        spec = ((3, 5, 5), (1, 2, 3), (3, 3, 2), 3, 1, True)
        one, other = ((2,), (0,), (1, 2)), ((2,), (1,), (2,))
        self.assertEqual(cost_with(make(spec), one, other, (1, 2)), 25)
        self.assertEqual(cost_with(make(spec), one, other, (0, 1, 2)), 23)
        self.assertIsNone(cost_with(make(spec), one, other, (0, 2)))
        self.assertEqual(least_movers(make(spec), one, other), [(1, 2)])

    def test_a_placing_to_itself(self):
        for spec in ALL_SPECS:
            one = listed(spec)[0]
            found = movers(make(spec), one, one)
            self.assertEqual((found.ways, found.knots), ({(): ()}, {}))
            self.assertIs(found.shows(make(spec), one, one), True)
            self.assertEqual(least_movers(make(spec), one, one), [()])
            for some in sets_of_shards(spec):
                self.assertEqual(cost_with(make(spec), one, one, some), 0)

    def test_no_way(self):
        found = movers(make(NARROW), ONE, OTHER)
        self.assertEqual((found.ways, list(found.knots)), ({}, [(0, 1, 2)]))
        self.assertEqual(least_movers(make(NARROW), ONE, OTHER), [])
        self.assertIsNone(cost_with(make(NARROW), ONE, OTHER, (0, 1, 2)))
        self.assertIsNone(cost_with(make(NARROW), ONE, OTHER, ()))

    def test_ways_may_be_dear(self):
        found = movers(make(WIDE), ONE, OTHER)
        self.assertEqual(list(found.ways), [(0, 1)])
        way = found.ways[(0, 1)]
        found.ways[(0, 1)] = (("copy", 0, 0, 2), ("drop", 0, 2)) + way
        self.assertIs(found.shows(make(WIDE), ONE, OTHER), True)
        found.ways[(0, 1)] = (("copy", 2, 0, 1), ("drop", 2, 1)) + way
        self.assertIs(found.shows(make(WIDE), ONE, OTHER), False)
        found.ways[(0, 1)] = way[1:]
        self.assertIs(found.shows(make(WIDE), ONE, OTHER), False)


class ShowsTest(Case):

    def check(self, spec, one, other, ways, knots):
        right = is_movers(spec, one, other, ways, knots)
        shown = Movers(ways, knots).shows(make(spec), one, other)
        self.assertIs(shown, right, (spec, one, other, ways, knots))
        return right

    def some_movers(self):
        """Yield movers of several kinds with their clusters and placings."""
        for spec in (WIDE, NARROW, ALL_SPECS[0], ALL_SPECS[7], ALL_SPECS[5], ALL_SPECS[11], ALL_SPECS[18]):
            for one, other in pairs(spec, 6):
                yield spec, one, other, movers(make(spec), one, other)

    def test_dicts_in_any_order(self):
        for spec, one, other, found in self.some_movers():
            ways, knots = (dict(reversed(table.items())) for table in (found.ways, found.knots))
            self.assertTrue(self.check(spec, one, other, ways, knots))

    def test_sets_left_out(self):
        for spec, one, other, found in self.some_movers():
            for some in found.ways:
                ways = {key: way for key, way in found.ways.items() if key != some}
                self.assertFalse(self.check(spec, one, other, ways, found.knots))
            for some in found.knots:
                knots = {key: value for key, value in found.knots.items() if key != some}
                self.assertFalse(self.check(spec, one, other, found.ways, knots))
            self.assertFalse(self.check(spec, one, other, {}, {}))

    def test_sets_added(self):
        for spec, one, other, found in self.some_movers():
            for some in sets_of_shards(spec):
                for way in [*found.ways.values(), ()]:
                    if some not in found.ways:
                        self.assertFalse(self.check(spec, one, other, {**found.ways, some: way}, found.knots))
                for value in [*found.knots.values(), [one], list(least_costs(spec, one, some))]:
                    if some not in found.knots:
                        self.assertFalse(self.check(spec, one, other, found.ways, {**found.knots, some: value}))

    def test_a_set_instead_of_another(self):
        for spec, one, other, found in self.some_movers():
            for old in found.ways:
                for new in sets_of_shards(spec):
                    ways = {(new if key == old else key): way for key, way in found.ways.items()}
                    self.assertIs(self.check(spec, one, other, ways, found.knots), new == old)
            for old in found.knots:
                for new in sets_of_shards(spec):
                    knots = {(new if key == old else key): value for key, value in found.knots.items()}
                    self.assertIs(self.check(spec, one, other, found.ways, knots), new == old)

    def test_what_is_no_set_of_shards(self):
        found = movers(make(WIDE), ONE, OTHER)
        for wrong in ((1, 0), (0, 0), (3,), (0, 3), (-1,), (0, 1, 1)):
            ways, knots = {**found.ways, wrong: found.ways[(0, 1)]}, {**found.knots, wrong: [ONE]}
            self.assertIs(Movers(ways, found.knots).shows(make(WIDE), ONE, OTHER), False)
            self.assertIs(Movers(found.ways, knots).shows(make(WIDE), ONE, OTHER), False)
            self.assertIs(Movers({wrong: found.ways[(0, 1)]}, found.knots).shows(make(WIDE), ONE, OTHER), False)

    def test_changed_ways(self):
        for spec, one, other, found in self.some_movers():
            for some, way in found.ways.items():
                for at in range(len(way)):
                    changes = [way[:at] + way[at + 1:], way[:at] + way[at:at + 1] + way[at:], way[:at] + (("move", 0, 0),),
                               way[:at] + (("drop", 0),) + way[at + 1:], way[:at] + (("copy", 9, 0, 1),) + way[at + 1:]]
                    for changed in changes:
                        self.check(spec, one, other, {**found.ways, some: changed}, found.knots)
                self.check(spec, one, other, {**found.ways, some: way[::-1]}, found.knots)

    def test_changed_knots(self):
        for spec, one, other, found in self.some_movers():
            for some, value in found.knots.items():
                for changed in changed_lists(value, [other, listed(spec)[0], listed(spec)[-1]]):
                    self.check(spec, one, other, found.ways, {**found.knots, some: changed})

    def test_closed_only_for_these_shards(self):
        found = movers(make(WIDE), ONE, OTHER)
        self.assertEqual(list(found.knots), [(0, 2), (1, 2)])
        every = [placing for placing in listed(WIDE) if placing != OTHER]
        self.assertIs(Movers(found.ways, {**found.knots, (0, 2): every}).shows(make(WIDE), ONE, OTHER), False)
        kept = [placing for placing in every if placing[1] == (1,)]
        self.assertIs(Movers(found.ways, {**found.knots, (0, 2): kept}).shows(make(WIDE), ONE, OTHER), True)

    def test_for_other_placings(self):
        found = movers(make(WIDE), ONE, OTHER)
        self.assertIs(found.shows(make(WIDE), OTHER, ONE), False)
        self.assertIs(found.shows(make(WIDE), ONE, ONE), False)
        self.assertIs(found.shows(make(NARROW), ONE, OTHER), False)
        self.assertIs(movers(make(WIDE), ONE, ONE).shows(make(WIDE), ONE, OTHER), False)
        self.assertIs(Movers({(): ()}, {}).shows(make(WIDE), ONE, OTHER), False)
        self.assertIs(Movers({}, {(0, 1, 2): [ONE]}).shows(make(WIDE), ONE, ONE), False)


class LimitTest(Case):

    def test_exactly_2000_and_more(self):
        for spec, count in ((JUST_INSIDE, 2000), (JUST_OUTSIDE, 2001)):
            every, cluster = listed(spec), make(spec)
            self.assertEqual(len(least_costs(spec, every[0])), count)
            for one, other in ((every[0], every[0]), (every[0], every[-1])):
                if count > 2000:
                    self.refused(TooLarge, movers, cluster, one, other)
                    self.refused(TooLarge, least_movers, cluster, one, other)
                    for some in ((), (0,), (0, 1, 2, 3)):
                        self.refused(TooLarge, cost_with, cluster, one, other, some)
                else:
                    found = movers(cluster, one, other)
                    self.assertEqual(list(found.ways), least_movers(cluster, one, other))
                    self.assertIs(found.shows(cluster, one, other), True)
                    self.assertEqual(cost_with(cluster, one, other, (0, 1, 2, 3)),
                                     least_costs(spec, one)[other])

    def test_due_even_if_a_plan_is_found_at_once(self):
        one, other = ((0,),) * 4, ((0, 1), (0,), (0,), (0,))
        for function in (movers, least_movers):
            self.refused(TooLarge, function, make(WIDEST), one, one)
            self.refused(TooLarge, function, make(WIDEST), one, other)
        self.refused(TooLarge, cost_with, make(WIDEST), one, other, (0,))
        self.refused(TooLarge, cost_with, make(WIDEST), one, one, ())

    def test_shows_has_no_limit(self):
        one, other = ((0,),) * 4, ((0, 1), (0,), (0,), (0,))
        knots = {(1, 2, 3): [one]}
        self.assertIs(Movers({(0,): (("copy", 0, 0, 1),)}, knots).shows(make(WIDEST), one, other), False)
        knots = {(1, 2, 3): [placing for placing in listed(WIDEST) if placing[0] == (0,)]}
        self.assertEqual(len(knots[(1, 2, 3)]), 15 ** 3)
        self.assertIs(Movers({(0,): (("copy", 0, 0, 1),)}, knots).shows(make(WIDEST), one, other), True)


class ArgumentsTest(Case):

    def test_interface(self):
        parameters = {"movers": ["cluster", "one", "other"], "least_movers": ["cluster", "one", "other"],
                      "cost_with": ["cluster", "one", "other", "some"], "Movers": ["ways", "knots"]}
        for name, names in parameters.items():
            self.assertEqual(list(inspect.signature(getattr(module, name)).parameters), names)
            self.assertEqual(getattr(module, name).__module__, "shardmove.movers")
        self.assertEqual(list(inspect.signature(vars(Movers)["shows"]).parameters)[1:], ["cluster", "one", "other"])
        self.assertIn("__eq__", vars(Movers))

    def test_what_are_no_movers(self):
        for some in ((3,), (0, 3), (-1,), (1, 0), (0, 0), (0, 1, 2, 3), (True,), (False,), (0, True), [0], [], {0: 1}, {},
                     "0", "", 0, 1, None, range(2), iter((0, 1)), ((0,),), ("0",), (None,), {0, 1}, frozenset()):
            self.refused(BadMovers, cost_with, make(WIDE), ONE, OTHER, some)

    def test_what_is_handed_in_is_copied(self):
        ways, knots = {(0, 1): ()}, {(0, 2): [ONE], (1, 2): [OTHER]}
        found = Movers(ways, knots)
        ways[(0,)] = ()
        knots[(0, 2)].append(OTHER)
        del knots[(1, 2)]
        self.assertEqual((found.ways, found.knots), ({(0, 1): ()}, {(0, 2): [ONE], (1, 2): [OTHER]}))
        found.knots[(0, 2)].clear()
        found.ways.clear()
        self.assertEqual((len(ways), knots), (2, {(0, 2): [ONE, OTHER]}))

    def test_what_is_returned_is_new(self):
        cluster = make(WIDE)
        first = movers(cluster, ONE, OTHER)
        first.ways.clear()
        for value in first.knots.values():
            value.clear()
        least_movers(cluster, ONE, OTHER).clear()
        self.assertIs(movers(cluster, ONE, OTHER).shows(cluster, ONE, OTHER), True)
        self.assertEqual(least_movers(cluster, ONE, OTHER), [(0, 1)])

    def test_shows_looks_at_the_current_attributes(self):
        cluster = make(WIDE)
        found = movers(cluster, ONE, OTHER)
        way = found.ways.pop((0, 1))
        self.assertIs(found.shows(cluster, ONE, OTHER), False)
        found.ways = {(0, 1): way}
        self.assertIs(found.shows(cluster, ONE, OTHER), True)
        last = found.knots[(0, 2)].pop()
        self.assertIs(found.shows(cluster, ONE, OTHER), False)
        found.knots[(0, 2)].insert(0, last)
        self.assertIs(found.shows(cluster, ONE, OTHER), True)
        found.knots = {}
        self.assertIs(found.shows(cluster, ONE, OTHER), False)

    def test_equal_objects(self):
        self.assertTrue(Movers({(0,): (), (1,): ()}, {(): [ONE]}) == Movers({(1,): (), (0,): ()}, {(): [ONE]}))
        self.assertFalse(Movers({(0,): ()}, {}) == Movers({(1,): ()}, {}))
        self.assertFalse(Movers({(0,): ()}, {}) == Movers({(0,): (("drop", 0, 0),)}, {}))
        self.assertFalse(Movers({}, {(): [ONE, OTHER]}) == Movers({}, {(): [OTHER, ONE]}))
        self.assertTrue(Movers({}, {(): [ONE]}) != Movers({}, {(0,): [ONE]}))

    def test_by_keyword(self):
        cluster = make(WIDE)
        self.assertEqual(cost_with(cluster=cluster, one=ONE, other=OTHER, some=(0, 1)), 9)
        self.assertEqual(least_movers(cluster=cluster, one=ONE, other=OTHER), [(0, 1)])
        found = movers(cluster=cluster, one=ONE, other=OTHER)
        self.assertIs(found.shows(cluster=cluster, one=ONE, other=OTHER), True)
        self.assertEqual(Movers(knots=found.knots, ways=found.ways), found)


if __name__ == "__main__":
    unittest.main()
