"""[9] Schedules and jams, and what [1] says of them."""

import inspect
import itertools
import unittest

from shardmove import rounds as module
from shardmove.clusters import Cluster
from shardmove.errors import BadCluster, BadPlacing, BadTraffic, TooLarge
from shardmove.rounds import Jam, Schedule, fewest_rounds, schedule
from tests.graphs import (ROUND_SPECS, changed_floors, changed_lists, is_jam, is_schedule, listed, pairs, round_counts)
from tests.helpers import EMPTY_SPECS, WIDEST, Case, candidates, make, odd_values

SPEC = ROUND_SPECS[15]
CLUSTER = make(SPEC)
ONE, OTHER = ((0,), (0,), (1,)), ((1,), (1,), (0,))

# Exactly 300, and exactly 301 placings.
JUST_FEW = ((4, 5, 4), (3, 3, 1, 1), (1, 1, 2), 2, 1, False)
JUST_MANY = ((2, 2, 6), (1, 2, 1, 1), (3, 0, 1), 1, 1, False)


def cases(most):
    """Yield clusters with some pairs of placings, and a bound that goes round through all of them."""
    for spec in ROUND_SPECS:
        for at, (one, other) in enumerate(pairs(spec, most)):
            yield spec, one, other, 1 + at % 6


class ScheduleTest(Case):

    def test_against_a_search(self):
        jams = 0
        for spec, one, other, traffic in cases(30):
            cluster, counts = make(spec), round_counts(spec, one, traffic)
            found = schedule(cluster, one, other, traffic)
            self.assertEqual(fewest_rounds(cluster, one, other, traffic), counts.get(other), (spec, one, other, traffic))
            if other in counts:
                self.assertIs(found.__class__, Schedule)
                self.assertIs(found.rounds.__class__, tuple)
                self.assertIs(found.floors.__class__, dict)
                self.assertEqual(len(found.rounds), counts[other])
                self.assertTrue(is_schedule(spec, one, other, traffic, found.rounds, found.floors))
            else:
                jams += 1
                self.assertIs(found.__class__, Jam)
                self.assertIs(found.placings.__class__, list)
                self.assertTrue(is_jam(spec, one, other, traffic, found.placings))
            self.assertIs(found.shows(cluster, one, other, traffic), True)
        self.assertGreater(jams, 40)

    def test_more_traffic_is_faster(self):
        found = [fewest_rounds(CLUSTER, ONE, OTHER, traffic) for traffic in range(1, 7)]
        self.assertEqual(found, [None, 3, 2, 2, 2, 2])
        wide = Cluster((6, 6), (1, 1, 1, 1))
        found = [fewest_rounds(wide, ((0,),) * 4, ((1,),) * 4, traffic) for traffic in range(1, 7)]
        self.assertEqual(found, [4, 2, 2, 1, 1, 1])

    def test_ways_without_rounds(self):
        # The copy of size 3 needs a bound of 3, whatever the number of rounds.
        cluster = Cluster((3, 3), (3,))
        self.assertEqual([fewest_rounds(cluster, ((0,),), ((1,),), traffic) for traffic in (1, 2, 3)], [None, None, 1])
        self.assertEqual(schedule(cluster, ((0,),), ((1,),), 2), Jam([((0,),)]))
        self.assertEqual(fewest_rounds(cluster, ((0, 1),), ((1,),), 1), 1)

    def test_a_placing_to_itself(self):
        for spec in ROUND_SPECS:
            one = listed(spec)[0]
            for traffic in (1, 6):
                self.assertEqual(schedule(make(spec), one, one, traffic).rounds, ())
                self.assertEqual(fewest_rounds(make(spec), one, one, traffic), 0)
                self.assertIs(schedule(make(spec), one, one, traffic).shows(make(spec), one, one, traffic), True)
                self.assertIs(Schedule((), {}).shows(make(spec), one, one, traffic), True)
                self.assertIs(Schedule((), {one: 1}).shows(make(spec), one, one, traffic), False)
                self.assertIs(Jam([one]).shows(make(spec), one, one, traffic), False)

    def test_floors_may_be_those_of_what_is_left(self):
        rounds = schedule(CLUSTER, ONE, OTHER, 2).rounds
        left = {placing: round_counts(SPEC, placing, 2)[OTHER] for placing in listed(SPEC)}
        for changes, right in (({}, True), ({OTHER: 1}, False), ({OTHER: -4}, True), ({ONE: 1}, False), ({ONE: 4}, False)):
            self.assertIs(Schedule(rounds, {**left, **changes}).shows(CLUSTER, ONE, OTHER, 2), right)
        without = {placing: floor for placing, floor in left.items() if placing != OTHER}
        self.assertIs(Schedule(rounds, without).shows(CLUSTER, ONE, OTHER, 2), True)

    def test_floors_of_placings_from_which_no_rounds_lead_there(self):
        one, other = OTHER, ONE
        found = schedule(CLUSTER, one, other, 1)
        self.assertIs(found.__class__, Jam)
        for placing in listed(SPEC)[::9]:
            found = schedule(CLUSTER, placing, other, 1)
            if isinstance(found, Schedule):
                stuck = [each for each in listed(SPEC) if other not in round_counts(SPEC, each, 1)]
                high = {**found.floors, **dict.fromkeys(stuck, 10 ** 20)}
                self.assertIs(Schedule(found.rounds, high).shows(CLUSTER, placing, other, 1), True)
                high.pop(stuck[0])
                right = is_schedule(SPEC, placing, other, 1, found.rounds, high)
                self.assertIs(Schedule(found.rounds, high).shows(CLUSTER, placing, other, 1), right)

    def test_changed_floors(self):
        for spec, one, other, traffic in cases(4):
            found = schedule(make(spec), one, other, traffic)
            if isinstance(found, Schedule):
                for floors in changed_floors(dict(list(found.floors.items())[:9]), [other, *listed(spec)[:2]]):
                    for table in (floors, {**found.floors, **floors}):
                        right = is_schedule(spec, one, other, traffic, found.rounds, table)
                        shown = Schedule(found.rounds, table).shows(make(spec), one, other, traffic)
                        self.assertIs(shown, right, (spec, one, other, traffic, table))

    def test_changed_rounds(self):
        for spec, one, other, traffic in cases(4):
            found = schedule(make(spec), one, other, traffic)
            if isinstance(found, Schedule):
                for rounds in self.changed(spec, found.rounds):
                    right = is_schedule(spec, one, other, traffic, rounds, found.floors)
                    shown = Schedule(rounds, found.floors).shows(make(spec), one, other, traffic)
                    self.assertIs(shown, right, (spec, one, other, traffic, rounds))

    def changed(self, spec, rounds):
        """Return rounds that differ from others: some left out, doubled or reversed, or with other steps."""
        found = [(), rounds[::-1], rounds + rounds, rounds + (((), ()),), (((), ()),) + rounds]
        for at, (copies, drops) in enumerate(rounds):
            changes = [(copies[1:], drops), (copies, drops[1:]), (drops, copies), (copies[::-1], drops[::-1]),
                       (copies + (("copy", 0, 0),), drops), (copies, drops + (("drop", 0, 9),)),
                       (copies + (("move", 0, 0, 1),), drops), ((("copy", 9, 0, 1),), drops), (copies * 2, drops)]
            changes += [(tuple(sorted(copies + (step,))), drops) if len(step) == 4 else
                        (copies, tuple(sorted(drops + (step,)))) for step in candidates(spec)]
            found += [rounds[:at] + rounds[at + 1:], rounds[:at] + rounds[at:at + 1] + rounds[at:]]
            found += [rounds[:at] + (change,) + rounds[at + 1:] for change in changes]
            found.append(rounds[:at] + ((copies, ()), ((), drops)) + rounds[at + 1:])
        return found

    def test_more_rounds_than_needed(self):
        cluster = Cluster((6, 6), (1, 1))
        one, other = ((0,), (0,)), ((1,), (1,))
        slow = (((("copy", 0, 0, 1),), (("drop", 0, 0),)), ((("copy", 1, 0, 1),), (("drop", 1, 0),)))
        both = (((("copy", 0, 0, 1), ("copy", 1, 0, 1)), (("drop", 0, 0), ("drop", 1, 0))),)
        every = [(first, second) for first in ((0,), (0, 1), (1,)) for second in ((0,), (0, 1), (1,))]
        floors = {placing: max((1 not in row) + (row == (0, 1)) for row in placing) for placing in every}
        self.assertIs(Schedule(both, floors).shows(cluster, one, other, 2), True)
        self.assertIs(Schedule(slow, floors).shows(cluster, one, other, 2), False)
        self.assertIs(Schedule(both, floors).shows(cluster, one, other, 1), False)
        self.assertEqual(fewest_rounds(cluster, one, other, 1), 2)
        right = schedule(cluster, one, other, 1).floors
        self.assertIs(Schedule(slow, right).shows(cluster, one, other, 1), True)
        self.assertIs(Schedule(slow, right).shows(cluster, one, other, 2), False)
        self.assertIs(Schedule(slow, {}).shows(cluster, one, other, 1), False)
        self.assertIs(Schedule(slow, {one: 2}).shows(cluster, one, other, 1), False)

    def test_changed_jams(self):
        some = 0
        for spec, one, other, traffic in cases(12):
            found = schedule(make(spec), one, other, traffic)
            if isinstance(found, Jam):
                some += 1
                for placings in changed_lists(found.placings[:12], [other]) + changed_lists(found.placings, [other])[-9:]:
                    right = is_jam(spec, one, other, traffic, placings)
                    self.assertIs(Jam(placings).shows(make(spec), one, other, traffic), right)
        self.assertGreater(some, 20)

    def test_a_jam_where_there_are_rounds(self):
        for placings in ([ONE], [], list(listed(SPEC)),
                         [placing for placing in listed(SPEC) if placing != OTHER]):
            self.assertIs(Jam(placings).shows(CLUSTER, ONE, OTHER, 2), False)
        found = schedule(CLUSTER, ONE, OTHER, 1)
        self.assertIs(found.shows(CLUSTER, ONE, OTHER, 1), True)
        self.assertIs(found.shows(CLUSTER, ONE, OTHER, 2), False)
        self.assertIs(found.shows(CLUSTER, OTHER, ONE, 1), False)

    def test_of_another_cluster_or_placing(self):
        found = schedule(CLUSTER, ONE, OTHER, 2)
        self.assertIs(found.shows(CLUSTER, OTHER, ONE, 2), False)
        self.assertIs(found.shows(CLUSTER, ONE, ONE, 2), False)
        self.assertIs(found.shows(CLUSTER, ONE, OTHER, 1), False)


class LimitTest(Case):

    def test_exactly_300(self):
        every, cluster = listed(JUST_FEW), make(JUST_FEW)
        self.assertEqual(len(every), 300)
        one, other = every[0], every[-1]
        found = schedule(cluster, one, other, 3)
        self.assertIs(found.shows(cluster, one, other, 3), True)
        self.assertEqual(fewest_rounds(cluster, one, other, 3), len(found.rounds))
        found = schedule(cluster, one, other, 1)
        self.assertIs(found.__class__, Jam)
        self.assertIs(found.shows(cluster, one, other, 1), True)

    def test_more_than_300(self):
        self.assertEqual(len(listed(JUST_MANY)), 301)
        for spec in (JUST_MANY, WIDEST):
            one, cluster = listed(spec)[0], make(spec)
            for other in (one, listed(spec)[-1]):
                self.refused(TooLarge, schedule, cluster, one, other, 2)
                self.refused(TooLarge, fewest_rounds, cluster, one, other, 2)
                self.refused(TooLarge, Schedule((), {}).shows, cluster, one, other, 2)
                self.refused(TooLarge, Jam([one]).shows, cluster, one, other, 2)

    def test_a_cluster_without_placings(self):
        for spec in EMPTY_SPECS:
            self.refused(BadPlacing, schedule, make(spec), ((0,),), ((0,),), 1)


class ArgumentsTest(Case):

    def functions(self):
        return [schedule, fewest_rounds, Schedule((), {}).shows, Jam([]).shows]

    def test_interface(self):
        parameters = {"schedule": ["cluster", "one", "other", "traffic"],
                      "fewest_rounds": ["cluster", "one", "other", "traffic"],
                      "Schedule": ["rounds", "floors"], "Jam": ["placings"]}
        for name, names in parameters.items():
            self.assertEqual(list(inspect.signature(getattr(module, name)).parameters), names)
            self.assertEqual(getattr(module, name).__module__, "shardmove.rounds")
        for kind in (Schedule, Jam):
            self.assertEqual(list(inspect.signature(vars(kind)["shows"]).parameters)[1:],
                             ["cluster", "one", "other", "traffic"])
            self.assertIn("__eq__", vars(kind))

    def test_what_is_no_bound(self):
        for function, traffic in itertools.product(self.functions(), odd_values() + [0, 7]):
            self.refused(BadTraffic, function, CLUSTER, ONE, OTHER, traffic)

    def test_the_order_of_errors(self):
        many = make(JUST_MANY)
        one = listed(JUST_MANY)[0]
        for function, bad in itertools.product(self.functions(), (None, [], True, 99)):
            self.assertIsNone(self.refused(BadCluster, function, bad, bad, bad, bad).part)
            self.refused(BadPlacing, function, many, bad, one, bad)
            self.refused(BadPlacing, function, many, one, bad, bad)
            self.refused(BadTraffic, function, many, one, one, bad)
            self.refused(TooLarge, function, many, one, one, 1)

    def test_what_is_handed_in_is_copied(self):
        floors, placings = {ONE: 2}, [ONE]
        first, second = Schedule((), floors), Jam(placings)
        floors[OTHER] = 1
        placings.append(OTHER)
        self.assertEqual((first.rounds, first.floors, second.placings), ((), {ONE: 2}, [ONE]))
        first.floors.clear()
        second.placings.clear()
        self.assertEqual((len(floors), len(placings)), (2, 2))

    def test_what_is_returned_is_new(self):
        schedule(CLUSTER, ONE, OTHER, 2).floors.clear()
        self.assertIs(schedule(CLUSTER, ONE, OTHER, 2).shows(CLUSTER, ONE, OTHER, 2), True)
        schedule(CLUSTER, ONE, OTHER, 1).placings.clear()
        self.assertIs(schedule(CLUSTER, ONE, OTHER, 1).shows(CLUSTER, ONE, OTHER, 1), True)

    def test_shows_looks_at_the_current_attributes(self):
        found = schedule(CLUSTER, ONE, OTHER, 2)
        first = found.floors.pop(ONE)
        self.assertIs(found.shows(CLUSTER, ONE, OTHER, 2), False)
        found.floors[ONE] = first
        self.assertIs(found.shows(CLUSTER, ONE, OTHER, 2), True)
        rounds = found.rounds
        found.rounds = rounds[:1]
        self.assertIs(found.shows(CLUSTER, ONE, OTHER, 2), False)
        found.rounds, found.floors = rounds, {}
        self.assertIs(found.shows(CLUSTER, ONE, OTHER, 2), False)
        jam = schedule(CLUSTER, ONE, OTHER, 1)
        last = jam.placings.pop()
        self.assertIs(jam.shows(CLUSTER, ONE, OTHER, 1), False)
        jam.placings = [last] + jam.placings
        self.assertIs(jam.shows(CLUSTER, ONE, OTHER, 1), True)

    def test_equal_objects(self):
        turn = ((("copy", 0, 0, 1),), ())
        self.assertTrue(Schedule((turn,), {ONE: 1, OTHER: 0}) == Schedule((turn,), {OTHER: 0, ONE: 1}))
        self.assertFalse(Schedule((turn,), {ONE: 1}) == Schedule((turn,), {ONE: 2}))
        self.assertTrue(Schedule((turn,), {}) != Schedule((), {}))
        self.assertTrue(Jam([ONE, OTHER]) == Jam([ONE, OTHER]))
        self.assertFalse(Jam([ONE, OTHER]) == Jam([OTHER, ONE]))
        self.assertTrue(Jam([ONE]) != Jam([]))

    def test_by_keyword(self):
        found = schedule(cluster=CLUSTER, one=ONE, other=OTHER, traffic=2)
        self.assertEqual(fewest_rounds(cluster=CLUSTER, one=ONE, other=OTHER, traffic=2), 3)
        self.assertIs(found.shows(cluster=CLUSTER, one=ONE, other=OTHER, traffic=2), True)
        self.assertEqual(Schedule(floors=found.floors, rounds=found.rounds), found)
        self.assertEqual(Jam(placings=[ONE]), Jam([ONE]))


if __name__ == "__main__":
    unittest.main()
