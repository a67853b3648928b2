"""What [1] says of wrong arguments of functions with clusters and placings: which error is raised, and when."""

import itertools
import unittest

from shardmove.clusters import Cluster
from shardmove.errors import BadCluster, BadMovers, BadPlacing, TooLarge
from shardmove.movers import Movers, cost_with, least_movers, movers
from shardmove.plans import Knot, Plan, can_move, least_cost, musts, plan
from shardmove.regions import Regions, region, regions
from shardmove.rounds import Jam, Schedule, after_round, fewest_rounds, round_between, schedule
from tests.helpers import WIDEST, Case, LooksLikeACluster, make, odd_values, spoiled

CLUSTER = Cluster((3, 3, 3), (2, 1), zones=(0, 1, 1), far=2)
PLACING = ((0,), (0, 1))
SEARCHES = [plan, least_cost, can_move, musts, movers, least_movers]
SHOWS = [Plan((), {}).shows, Knot([]).shows, Movers({}, {}).shows]
# These take a bound of traffic, too.
ROUNDS = [round_between, schedule, fewest_rounds, Schedule((), {}).shows, Jam([]).shows]
TURN = ((("copy", 0, 0, 1),), ())
# Placings far from each other in the widest cluster, for which everything is too large.
FAR = ((0,),) * 4, ((3,),) * 4


class RefusalsTest(Case):

    def test_what_is_no_cluster(self):
        for value in [*odd_values(), Cluster, LooksLikeACluster(), PLACING]:
            for function in SEARCHES + SHOWS:
                self.assertIsNone(self.refused(BadCluster, function, value, PLACING, PLACING).part)
            self.assertIsNone(self.refused(BadCluster, cost_with, value, PLACING, PLACING, (0,)).part)
            for function in ROUNDS:
                self.assertIsNone(self.refused(BadCluster, function, value, PLACING, PLACING, 2).part)
            self.assertIsNone(self.refused(BadCluster, after_round, value, PLACING, 2, TURN).part)
            for function in (regions, Regions([]).shows):
                self.assertIsNone(self.refused(BadCluster, function, value).part)
            self.assertIsNone(self.refused(BadCluster, region, value, PLACING).part)

    def test_what_is_no_placing(self):
        wrong = spoiled(PLACING) + [((0,), (1, 0)), ((0,),), ((0,), (0,), (0,)), ((3,), (0,)), [(0,), (0, 1)],
                                    ((0,), (True,)), ((False,), (0, 1)), ((0,), ())]
        for value in wrong:
            for function in SEARCHES + SHOWS:
                self.refused(BadPlacing, function, CLUSTER, value, PLACING)
                self.refused(BadPlacing, function, CLUSTER, PLACING, value)
            self.refused(BadPlacing, cost_with, CLUSTER, value, PLACING, (0,))
            self.refused(BadPlacing, cost_with, CLUSTER, PLACING, value, (0,))
            for function in ROUNDS:
                self.refused(BadPlacing, function, CLUSTER, value, PLACING, 2)
                self.refused(BadPlacing, function, CLUSTER, PLACING, value, 2)
            self.refused(BadPlacing, after_round, CLUSTER, value, 2, TURN)
            self.refused(BadPlacing, region, CLUSTER, value)

    def test_what_are_no_movers(self):
        for value in odd_values():
            if isinstance(value, tuple) and len(value) == 0:
                self.assertEqual(cost_with(CLUSTER, PLACING, PLACING, value), 0)
            else:
                self.refused(BadMovers, cost_with, CLUSTER, PLACING, PLACING, value)

    def test_the_error_that_is_documented_first(self):
        for bad in (None, [], True, 99, "no", ((9,),) * 4):
            for one, other in itertools.product((bad, *FAR), repeat=2):
                for function in SEARCHES + SHOWS:
                    self.assertIsNone(self.refused(BadCluster, function, bad, one, other).part)
                    if bad in (one, other):
                        self.refused(BadPlacing, function, make(WIDEST), one, other)
                for some in (bad, (0,)):
                    self.assertIsNone(self.refused(BadCluster, cost_with, bad, one, other, some).part)
                    if bad in (one, other):
                        self.refused(BadPlacing, cost_with, make(WIDEST), one, other, some)
            self.refused(BadMovers, cost_with, make(WIDEST), *FAR, bad)

    def test_too_large_comes_after_the_others(self):
        for function in SEARCHES:
            self.refused(TooLarge, function, make(WIDEST), *FAR)
        for some in ((), (0,), (0, 1, 2, 3)):
            self.refused(TooLarge, cost_with, make(WIDEST), *FAR, some)
        for shows in SHOWS:
            self.assertIs(shows(make(WIDEST), *FAR), False)

    def test_placings_of_another_cluster(self):
        for cluster in (Cluster((3, 3), (2, 2)), Cluster((3, 2, 3), (2, 1), alive=2), Cluster((3, 3, 3), (2, 1, 1)),
                        Cluster((3, 3, 3), (3, 3)), Cluster((3, 3, 3), (1,)), Cluster((3, 3, 3), (2, 1), apart=True)):
            for function in SEARCHES + SHOWS:
                self.refused(BadPlacing, function, cluster, PLACING, PLACING)

    def test_what_are_no_placings_shows_nothing(self):
        # Such attributes are not asked about; but it would be wrong to say that they show something.
        tight, one, other = Cluster((2, 2), (2, 1)), ((0,), (1,)), ((1,), (0,))
        for value in (((0,), (0,)), ((2,), (1,)), ((0,), (1,), (0,)), ((1, 0), (1,)), ((0,),), ((), (0,)), 5, None, "0 1"):
            self.assertIs(Knot([one, value]).shows(tight, one, other), False)
            self.assertIs(Movers({}, {(0, 1): [value, one]}).shows(tight, one, other), False)
            self.assertIs(Jam([one, value]).shows(tight, one, other, 2), False)
            for floor in (-1, 0, 1):
                self.assertIs(Plan((), {value: floor}).shows(tight, one, one), False)
                self.assertIs(Schedule((), {value: floor}).shows(tight, one, one, 2), False)
        self.assertIs(Knot([one]).shows(tight, one, other), True)
        self.assertIs(Movers({}, {(0, 1): [one]}).shows(tight, one, other), True)
        self.assertIs(Jam([one]).shows(tight, one, other, 2), True)

    def test_nothing_has_changed(self):
        cluster, other = make(((3, 2, 2), (2, 1), (0, 0, 1), 3, 1, False)), ((2,), (0,))
        before = [plan(cluster, ((0,), (0,)), other), movers(cluster, ((0,), (0,)), other)]
        for function in SEARCHES:
            self.refused(TooLarge, function, make(WIDEST), *FAR)
            self.refused(BadPlacing, function, cluster, other, None)
        self.assertEqual([plan(cluster, ((0,), (0,)), other), movers(cluster, ((0,), (0,)), other)], before)
        self.assertEqual((cluster.rooms, cluster.sizes, cluster.zones), ((3, 2, 2), (2, 1), (0, 0, 1)))


if __name__ == "__main__":
    unittest.main()
