"""[9] Rounds: which are possible, where they lead, and what [1] says of them."""

import inspect
import itertools
import unittest

from shardmove import rounds as module
from shardmove.clusters import Cluster
from shardmove.errors import BadCluster, BadPlacing, BadRound, BadTraffic
from shardmove.rounds import after_round, round_between
from tests.graphs import ROUND_SPECS, all_rounds, listed, round_results, search_after_round
from tests.helpers import WIDEST, Case, candidates, make, odd_values, spoiled

BOUNDS = range(1, 7)
CLUSTER = Cluster((4, 3, 3), (2, 1, 1))
PLACING = ((0,), (0,), (1,))
TURN = ((("copy", 1, 0, 2), ("copy", 2, 1, 0)), (("drop", 1, 0),))


class AfterRoundTest(Case):

    def outcome(self, spec, placing, traffic, turn):
        """Check what a round leads to against the document, and return whether it is possible."""
        expected = search_after_round(spec, placing, traffic, turn)
        if expected is None:
            self.refused(BadRound, after_round, make(spec), placing, traffic, turn)
        else:
            self.assertEqual(after_round(make(spec), placing, traffic, turn), expected)
        return expected is not None

    def test_all_rounds_under_all_bounds(self):
        for spec in ROUND_SPECS:
            cluster = make(spec)
            for at, placing in enumerate(listed(spec)):
                for turn, result, needed in all_rounds(spec, placing)[at % 17::17]:
                    for traffic in BOUNDS:
                        if needed <= traffic:
                            found = after_round(cluster, placing, traffic, turn)
                            self.assertEqual(found, result)
                            self.assertIs(found.__class__, tuple)
                        else:
                            self.refused(BadRound, after_round, cluster, placing, traffic, turn)

    def test_all_that_can_be_written(self):
        spec = ((2, 1, 2), (1, 1), (0, 0, 1), 2, 1, True)
        steps = candidates(spec)
        copies = [row for many in range(3) for row in itertools.combinations(steps[:18], many)]
        drops = [row for many in range(3) for row in itertools.combinations(steps[18:], many)]
        good = 0
        for at, (placing, first) in enumerate(itertools.product(listed(spec), copies)):
            for second in drops[at % 3::3]:
                good += self.outcome(spec, placing, 1 + at % 3, (first, second))
        self.assertGreater(good, 50)

    def test_by_hand(self):
        self.assertEqual(after_round(CLUSTER, PLACING, 2, TURN), ((0,), (2,), (0, 1)))
        self.refused(BadRound, after_round, CLUSTER, PLACING, 1, TURN)
        only_drops = ((), (("drop", 0, 0), ("drop", 1, 1)))
        self.assertEqual(after_round(CLUSTER, ((0, 1), (0, 1), (2,)), 1, only_drops), ((1,), (0,), (2,)))
        only_copies = ((("copy", 0, 0, 1), ("copy", 1, 0, 2)), ())
        self.assertEqual(after_round(CLUSTER, PLACING, 3, only_copies), ((0, 1), (0, 2), (1,)))
        self.refused(BadRound, after_round, CLUSTER, PLACING, 2, only_copies)

    def test_not_both_empty(self):
        for placing in listed(ROUND_SPECS[0]):
            self.refused(BadRound, after_round, make(ROUND_SPECS[0]), placing, 6, ((), ()))

    def test_in_order_and_none_twice(self):
        cluster = Cluster((6, 6, 6, 6), (1, 1))
        placing = ((0, 1), (0, 1))
        copies = (("copy", 0, 0, 2), ("copy", 0, 1, 3), ("copy", 1, 0, 3), ("copy", 1, 1, 2))
        drops = (("drop", 0, 0), ("drop", 0, 1), ("drop", 1, 0), ("drop", 1, 1))
        self.assertEqual(after_round(cluster, placing, 2, (copies, drops)), ((2, 3), (2, 3)))
        for some in itertools.permutations(copies):
            self.assertIs(self.possible(cluster, placing, (some, drops)), some == copies)
        for some in itertools.permutations(drops):
            self.assertIs(self.possible(cluster, placing, (copies, some)), some == drops)
        for at in range(4):
            twice = tuple(sorted(copies + copies[at:at + 1])), tuple(sorted(drops + drops[at:at + 1]))
            self.assertIs(self.possible(cluster, placing, (twice[0], drops)), False)
            self.assertIs(self.possible(cluster, placing, (copies, twice[1])), False)

    def possible(self, cluster, placing, turn, traffic=6):
        try:
            after_round(cluster, placing, traffic, turn)
        except BadRound:
            return False
        return True

    def test_copies_and_drops_each_in_their_tuple(self):
        placing = ((0, 1), (0,), (1,))
        for turn in (((("drop", 0, 0),), ()), ((), (("copy", 1, 0, 2),)), ((("drop", 0, 0),), (("copy", 1, 0, 2),)),
                     ((("copy", 1, 0, 2), ("drop", 0, 0)), ()), ((), (("copy", 1, 0, 2), ("drop", 0, 0)))):
            self.refused(BadRound, after_round, CLUSTER, placing, 6, turn)
        self.assertEqual(after_round(CLUSTER, placing, 6, ((("copy", 1, 0, 2),), (("drop", 0, 0),))),
                         ((1,), (0, 2), (1,)))

    def test_the_source_has_a_copy_before_the_round(self):
        cluster = Cluster((3, 3, 3), (1,))
        self.refused(BadRound, after_round, cluster, ((0,),), 6, ((("copy", 0, 0, 1), ("copy", 0, 1, 2)), ()))
        self.refused(BadRound, after_round, cluster, ((0,),), 6, ((("copy", 0, 1, 2),), ()))
        self.assertEqual(after_round(cluster, ((0,),), 6, ((("copy", 0, 0, 1), ("copy", 0, 0, 2)), ())), ((0, 1, 2),))

    def test_the_target_has_none(self):
        cluster = Cluster((3, 3, 3), (1,))
        self.refused(BadRound, after_round, cluster, ((0, 1),), 6, ((("copy", 0, 0, 1),), ()))
        self.refused(BadRound, after_round, cluster, ((0, 1),), 6, ((("copy", 0, 0, 1),), (("drop", 0, 1),)))
        self.refused(BadRound, after_round, cluster, ((0,),), 6, ((("copy", 0, 0, 0),), ()))

    def test_no_two_copies_to_one_place(self):
        cluster = Cluster((3, 3, 3), (1, 1))
        placing = ((0, 1), (0, 1))
        self.refused(BadRound, after_round, cluster, placing, 6, ((("copy", 0, 0, 2), ("copy", 0, 1, 2)), ()))
        turn = ((("copy", 0, 0, 2), ("copy", 1, 1, 2)), ())
        self.assertEqual(after_round(cluster, placing, 6, turn), ((0, 1, 2), (0, 1, 2)))

    def test_drops_are_of_copies_from_before_the_round(self):
        cluster = Cluster((3, 3, 3), (1,))
        copies = (("copy", 0, 0, 1),)
        self.refused(BadRound, after_round, cluster, ((0,),), 6, (copies, (("drop", 0, 1),)))
        self.refused(BadRound, after_round, cluster, ((0,),), 6, (copies, (("drop", 0, 2),)))
        self.refused(BadRound, after_round, cluster, ((0,),), 6, (copies, (("drop", 0, 0), ("drop", 0, 1))))
        self.assertEqual(after_round(cluster, ((0,),), 6, (copies, (("drop", 0, 0),))), ((1,),))

    def test_room_is_needed_for_copies_before_drops(self):
        swap = ((("copy", 0, 0, 1), ("copy", 1, 1, 0)), (("drop", 0, 0), ("drop", 1, 1)))
        self.refused(BadRound, after_round, Cluster((1, 2), (1, 1)), ((0,), (1,)), 6, swap)
        self.refused(BadRound, after_round, Cluster((2, 1), (1, 1)), ((0,), (1,)), 6, swap)
        self.assertEqual(after_round(Cluster((2, 2), (1, 1)), ((0,), (1,)), 2, swap), ((1,), (0,)))

    def test_alive_after_the_drops(self):
        cluster = Cluster((3, 3, 3), (1,), alive=2)
        self.refused(BadRound, after_round, cluster, ((0, 1),), 6, ((), (("drop", 0, 0),)))
        self.refused(BadRound, after_round, cluster, ((0, 1, 2),), 6, ((), (("drop", 0, 0), ("drop", 0, 1))))
        turn = ((("copy", 0, 1, 2),), (("drop", 0, 1),))
        self.assertEqual(after_round(cluster, ((0, 1),), 6, turn), ((0, 2),))

    def test_apart_before_the_drops(self):
        cluster = Cluster((3, 3, 3), (1,), zones=(0, 0, 1), apart=True)
        self.refused(BadRound, after_round, cluster, ((0,),), 6, ((("copy", 0, 0, 1),), (("drop", 0, 0),)))
        self.assertEqual(after_round(cluster, ((0,),), 6, ((("copy", 0, 0, 2),), (("drop", 0, 0),))), ((2,),))

    def test_traffic_is_counted_at_both_ends(self):
        cluster = Cluster((6, 6, 6, 6), (3, 2, 1), zones=(0, 1, 2, 3), far=3)
        placing = ((0,), (0,), (1,))
        cases = [((("copy", 0, 0, 1),), 3), ((("copy", 0, 0, 1), ("copy", 1, 0, 2)), 5),
                 ((("copy", 0, 0, 2), ("copy", 1, 0, 2)), 5), ((("copy", 0, 0, 1), ("copy", 2, 1, 2)), 4),
                 ((("copy", 0, 0, 2), ("copy", 1, 0, 2), ("copy", 2, 1, 2)), 6), ((("copy", 2, 1, 0),), 1),
                 ((("copy", 1, 0, 3), ("copy", 2, 1, 0)), 3), ((("copy", 1, 0, 2), ("copy", 1, 0, 3)), 4)]
        for copies, needed in cases:
            for traffic in BOUNDS:
                self.assertIs(self.possible(cluster, placing, (copies, ()), traffic), traffic >= needed)
        self.refused(BadRound, after_round, cluster, placing, 6, ((("copy", 0, 0, 1), ("copy", 0, 0, 2),
                                                                  ("copy", 1, 0, 3)), ()))

    def test_drops_need_no_traffic(self):
        cluster = Cluster((6, 6), (3, 3))
        turn = ((), (("drop", 0, 0), ("drop", 1, 0)))
        self.assertEqual(after_round(cluster, ((0, 1), (0, 1)), 1, turn), ((1,), (1,)))

    def test_values_of_every_kind(self):
        for turn in spoiled(TURN):
            # No drop at all is the only odd value with which this is a round.
            if isinstance(turn, tuple) and len(turn) == 2 and turn[1].__class__ is tuple and len(turn[1]) == 0:
                self.assertEqual(after_round(CLUSTER, PLACING, 6, turn), ((0,), (0, 2), (0, 1)))
            else:
                self.refused(BadRound, after_round, CLUSTER, PLACING, 6, turn)
        wrong = [list(TURN), (list(TURN[0]), TURN[1]), (TURN[0], list(TURN[1])), TURN + ((),), TURN[:1], TURN[0], TURN[1],
                 TURN[::-1], (TURN[0], ()) + TURN, {TURN[0]: TURN[1]}, (dict.fromkeys(TURN[0]), ()), (TURN,),
                 ((("copy", 1, 0, 2, 0),), ()), ((("copy", 1, 0),), ()), ((), (("drop", 1, 0, 0),)), ((), (("drop", 1),)),
                 ((("copy", True, 0, 2),), ()), ((("copy", 1, False, 2),), ()), ((("copy", 1, 0, 3),), ()),
                 ((("copy", 1, 0, -1),), ()), ((("copy", 3, 0, 1),), ()), ((("copy", -1, 0, 1),), ()),
                 ((("copy", 1, 0, 2),), (("drop", True, 0),)), ((("copy", 1, 0, 2),), (("drop", 1, False),)),
                 ((("copy", 1, 0, 2),), (("drop", 1, -3),)), ((("Copy", 1, 0, 2),), ()), ((["copy", 1, 0, 2],), ())]
        for turn in wrong:
            self.refused(BadRound, after_round, CLUSTER, PLACING, 6, turn)


class RoundBetweenTest(Case):

    def test_against_all_rounds(self):
        for spec in ROUND_SPECS:
            cluster = make(spec)
            for at, (one, other) in enumerate(itertools.product(listed(spec), repeat=2)):
                for traffic in ((1 + at % 6,) if len(listed(spec)) > 25 else BOUNDS):
                    found = round_between(cluster, one, other, traffic)
                    if other in round_results(spec, one, traffic):
                        self.assertIs(found.__class__, tuple)
                        self.assertEqual(search_after_round(spec, one, traffic, found), other, (spec, one, other, found))
                        self.assertEqual(after_round(cluster, one, traffic, found), other)
                    else:
                        self.assertIsNone(found, (spec, one, other, traffic))

    def test_sources_are_chosen_for_the_traffic(self):
        cluster = Cluster((3, 3, 3, 3), (1, 1, 1))
        one, other = ((0,), (0, 1), (1, 2)), ((0, 3), (0, 1, 2), (0, 1, 2))
        self.assertIsNone(round_between(cluster, one, other, 1))
        found = round_between(cluster, one, other, 2)
        self.assertEqual(after_round(cluster, one, 2, found), other)
        cluster = Cluster((3, 3, 3, 3), (1, 1))
        one, other = ((0, 1), (0,)), ((0, 1, 2), (0, 3))
        self.assertEqual(round_between(cluster, one, other, 1), ((("copy", 0, 1, 2), ("copy", 1, 0, 3)), ()))
        one, other = ((0,), (0, 1)), ((0, 3), (0, 1, 2))
        self.assertEqual(round_between(cluster, one, other, 1), ((("copy", 0, 0, 3), ("copy", 1, 1, 2)), ()))

    def test_two_sources_for_two_targets(self):
        cluster = Cluster((6, 6, 6, 6), (2, 2))
        one, other = ((0, 1), (0, 1)), ((0, 1, 2, 3), (0, 1))
        for traffic in (2, 3):
            found = round_between(cluster, one, other, traffic)
            self.assertEqual(found, ((("copy", 0, 0, 2), ("copy", 0, 1, 3)), ()))
        self.assertIsNone(round_between(cluster, one, other, 1))

    def test_a_placing_to_itself(self):
        for spec in ROUND_SPECS:
            for traffic in BOUNDS:
                self.assertIsNone(round_between(make(spec), listed(spec)[0], listed(spec)[0], traffic))

    def test_clusters_with_many_placings(self):
        one, other = ((0,),) * 4, ((1,), (2,), (3,), (0,))
        self.assertIsNone(round_between(make(WIDEST), one, other, 2))
        turn = tuple(("copy", shard, 0, shard + 1) for shard in range(3)), tuple(("drop", shard, 0) for shard in range(3))
        self.assertEqual(round_between(make(WIDEST), one, other, 3), turn)
        self.assertEqual(after_round(make(WIDEST), one, 3, turn), other)


class ArgumentsTest(Case):

    def test_interface(self):
        parameters = {"after_round": ["cluster", "placing", "traffic", "turn"],
                      "round_between": ["cluster", "one", "other", "traffic"]}
        for name, names in parameters.items():
            self.assertEqual(list(inspect.signature(getattr(module, name)).parameters), names)
            self.assertEqual(getattr(module, name).__module__, "shardmove.rounds")

    def test_what_is_no_bound(self):
        for traffic in odd_values() + [0, 7, 8, -6, "1", (1,), [1]]:
            self.refused(BadTraffic, after_round, CLUSTER, PLACING, traffic, TURN)
            self.refused(BadTraffic, round_between, CLUSTER, PLACING, PLACING, traffic)
        for traffic in BOUNDS:
            self.assertIsNone(round_between(CLUSTER, PLACING, PLACING, traffic))

    def test_the_order_of_errors(self):
        for bad in (None, [], True, 99, "no"):
            self.refused(BadCluster, after_round, bad, bad, bad, bad)
            self.refused(BadPlacing, after_round, CLUSTER, bad, bad, bad)
            self.refused(BadTraffic, after_round, CLUSTER, PLACING, bad, bad)
            self.refused(BadRound, after_round, CLUSTER, PLACING, 1, bad)
            self.refused(BadCluster, round_between, bad, bad, bad, bad)
            self.refused(BadPlacing, round_between, CLUSTER, bad, PLACING, bad)
            self.refused(BadPlacing, round_between, CLUSTER, PLACING, bad, bad)
            self.refused(BadTraffic, round_between, CLUSTER, PLACING, PLACING, bad)

    def test_by_keyword(self):
        self.assertEqual(after_round(cluster=CLUSTER, placing=PLACING, traffic=2, turn=TURN), ((0,), (2,), (0, 1)))
        other = ((0,), (2,), (0, 1))
        self.assertEqual(round_between(cluster=CLUSTER, one=PLACING, other=other, traffic=2), TURN)


if __name__ == "__main__":
    unittest.main()
