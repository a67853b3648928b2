"""[10] Spares, and what [1] says of them."""

import inspect
import itertools
import unittest

from shardmove import spares as module
from shardmove.clusters import Cluster
from shardmove.errors import BadCluster, BadOffers, BadPlacing, TooLarge
from shardmove.plans import Knot, Plan, plan
from shardmove.spares import Spare, least_spare, spare
from tests.graphs import ALL_SPECS, is_knot, is_plan, least, least_costs, listed, pairs
from tests.helpers import WIDEST, Case, LooksLikeACluster, make, odd_values, search_price, spoiled

ROW = ((2, 2), (2, 1), (0, 0), 3, 1, False)
ONE, OTHER = ((0,), (1,)), ((1,), (0,))
OFFERS = [(1, 0, 4), (1, 1, 1), (6, 0, 3)]
NARROW = [spec for spec in ALL_SPECS if len(spec[0]) < 4]
FULL = [spec for spec in ALL_SPECS if len(spec[0]) == 4]
SOME_OFFERS = [
    [],
    [(1, 0, 0)],
    [(6, 0, 20), (6, 1, 0), (2, 2, 5), (3, 3, 1)],
    [(3, 1, 2), (3, 1, 1), (3, 1, 1), (3, 1, 2)],
    [(2, 3, 7), (5, 2, 0), (1, 0, 0)],
    [(3, 0, 0), (3, 1, 3)],
]
# What the least room of a spare machine is for these placings, if it is in this zone.
ROOMS = [
    (ROW, ONE, OTHER, 0, 1),
    (((3, 3), (3, 2), (0, 0), 1, 1, False), ONE, OTHER, 3, 2),
    (((3, 3), (3, 3), (0, 0), 1, 1, False), ONE, OTHER, 0, 3),
    (((3, 5), (3, 2, 1), (0, 0), 1, 1, True), ((0,), (1,), (1,)), ((1,), (0,), (1,)), 1, 4),
    (((3, 4), (2, 3), (0, 0), 1, 1, True), ONE, OTHER, 2, 5),
    (((3, 4), (3, 3), (0, 0), 1, 1, True), ONE, OTHER, 2, 6),
]
# With the widest spare machines, more than 2000 placings are nearer than the last one; there is none without any.
CROWDED = ((2, 5, 5), (3, 1, 1, 3), (2, 3, 1), 3, 1, False)
CROWDED_PAIR = ((1,), (2,), (1,), (2,)), ((2,), (0, 1), (0, 1, 2), (1,))
# The same for the least spare machine with which there is a way.
TOO_WIDE = ((5, 2, 6), (1, 1, 3, 1), (3, 0, 3), 1, 1, True)
TOO_WIDE_PAIR = ((1, 2), (0,), (2,), (0,)), ((0,), (2,), (0,), (1, 2))
# Too large without a spare machine.
LARGE = ((6, 6, 6), (1, 1, 1, 1), (0, 1, 2), 3, 1, False)
LARGE_PAIR = ((0,),) * 4, ((1, 2),) * 4


def widened(spec, room, zone):
    """Return a cluster with a spare machine."""
    return (spec[0] + (room,), spec[1], spec[2] + (zone,), *spec[3:])


def wider_specs(spec, offers):
    """Return a cluster itself, and with the spare machine of each offer."""
    return [spec] + [widened(spec, room, zone) for room, zone, _ in offers]


def is_spare(spec, one, other, offers, found):
    """Say whether a Spare is as the document says."""
    specs = wider_specs(spec, offers)
    if len(found.answers) != len(specs):
        return False
    totals = []
    for wider, answer, price in zip(specs, found.answers, [0] + [price for _, _, price in offers]):
        if isinstance(answer, Knot):
            if not is_knot(wider, one, other, answer.placings):
                return False
            totals.append(None)
        else:
            if other not in least_costs(wider, one) or not is_plan(wider, one, other, answer.way, answer.floors):
                return False
            totals.append(sum(search_price(wider, step) for step in answer.way) + price)
    known = sorted((total, at) for at, total in enumerate(totals) if total is not None)
    return (found.total, found.index) == (known[0] if known else (None, None))


def cases(most):
    """Yield clusters with pairs of placings and offers."""
    for at, spec in enumerate(NARROW):
        for number, (one, other) in enumerate(pairs(spec, most)):
            yield spec, one, other, SOME_OFFERS[(at + number) % len(SOME_OFFERS)]
    for spec in FULL:
        for one, other in pairs(spec, 4):
            yield spec, one, other, []


class SpareTest(Case):

    def test_against_a_search(self):
        seen = set()
        for spec, one, other, offers in cases(12):
            found = spare(make(spec), one, other, offers)
            totals = [least_costs(wider, one).get(other) for wider in wider_specs(spec, offers)]
            totals = [None if total is None else total + price
                      for total, price in zip(totals, [0] + [price for _, _, price in offers])]
            known = [total for total in totals if total is not None]
            total = min(known, default=None)
            self.assertEqual(found.total, total, (spec, one, other, offers))
            self.assertEqual(found.index, None if total is None else totals.index(total))
            self.assertEqual([isinstance(answer, Knot) for answer in found.answers], [each is None for each in totals])
            self.assertTrue(is_spare(spec, one, other, offers, found), (spec, one, other, offers))
            self.assertIs(found.shows(make(spec), one, other, offers), True)
            seen.add(found.index)
        self.assertEqual(seen, {None, 0, 1, 2, 3, 4})

    def test_kinds(self):
        for offers in (OFFERS, tuple(OFFERS), [], ()):
            found = spare(make(ROW), ONE, OTHER, offers)
            self.assertIs(found.__class__, Spare)
            self.assertIs(found.answers.__class__, list)
            self.assertEqual(len(found.answers), len(offers) + 1)
            self.assertTrue({answer.__class__ for answer in found.answers} <= {Plan, Knot})
            self.assertTrue({found.index.__class__, found.total.__class__} <= {int, None.__class__})
            self.assertIs(found.shows(make(ROW), ONE, OTHER, offers), True)
            self.assertIs(found.shows(make(ROW), ONE, OTHER, list(offers)), True)

    def test_offers_in_their_order(self):
        found = spare(make(ROW), ONE, OTHER, OFFERS)
        self.assertEqual((found.index, found.total), (3, 10))
        self.assertEqual([answer.__class__ for answer in found.answers], [Knot, Plan, Plan, Plan])
        totals = [least_costs(widened(ROW, room, zone), ONE)[OTHER] + price for room, zone, price in OFFERS]
        self.assertEqual(totals, [11, 12, 10])
        backwards = spare(make(ROW), ONE, OTHER, OFFERS[::-1])
        self.assertEqual((backwards.index, backwards.total), (1, 10))
        self.assertIs(found.shows(make(ROW), ONE, OTHER, OFFERS[::-1]), False)

    def test_the_first_of_several_least_totals(self):
        offers = [(1, 0, 4), (1, 0, 3), (6, 0, 3), (1, 0, 3)]
        self.assertEqual(spare(make(ROW), ONE, OTHER, offers).total, 10)
        self.assertEqual(spare(make(ROW), ONE, OTHER, offers).index, 2)
        # Nothing is gained by another machine, even if it costs nothing.
        found = spare(make(ROW), ONE, ONE, [(6, 0, 0)] * 4)
        self.assertEqual((found.index, found.total), (0, 0))

    def test_a_price_can_be_worth_it(self):
        # The spare machine is in the zone of the first one; without it, the way leads through another zone.
        spec, one, other = ((2, 2, 2), (2, 2), (0, 0, 1), 3, 1, False), ((0,), (1,)), ((1,), (0,))
        dear = least_costs(spec, one)[other]
        cheap = least_costs(widened(spec, 2, 0), one)[other]
        self.assertEqual((dear, cheap), (17, 9))
        for price in (0, 7, 8, 9, 20):
            found = spare(make(spec), one, other, [(2, 0, price)])
            self.assertEqual((found.index, found.total), (1, 9 + price) if price < 8 else (0, 17))

    def test_none_that_helps(self):
        # All rooms are full, and a spare machine of room 1 cannot take a copy.
        tight = ((3, 3), (3, 3), (0, 1), 1, 1, False)
        for offers in ([], [(1, 0, 0)], [(2, 3, 0), (1, 1, 20)]):
            found = spare(make(tight), ONE, OTHER, offers)
            self.assertEqual((found.index, found.total), (None, None))
            self.assertTrue(all(isinstance(answer, Knot) for answer in found.answers))
            self.assertIs(found.shows(make(tight), ONE, OTHER, offers), True)

    def test_four_machines(self):
        for spec in FULL:
            for one, other in pairs(spec, 5):
                for offers in ([], ()):
                    found = spare(make(spec), one, other, offers)
                    total = least_costs(spec, one).get(other)
                    self.assertEqual((found.index, found.total), (None if total is None else 0, total))
                    self.assertEqual(len(found.answers), 1)
                    self.assertIs(found.shows(make(spec), one, other, offers), True)


class ShowsTest(Case):

    def check(self, spec, one, other, offers, index, total, answers):
        found = Spare(index, total, answers)
        right = is_spare(spec, one, other, offers, found)
        shown = found.shows(make(spec), one, other, offers)
        self.assertIs(shown, right, (spec, one, other, offers, index, total))
        return right

    def some_spares(self):
        for spec, one, other, offers in list(cases(6))[::3]:
            yield spec, one, other, offers, spare(make(spec), one, other, offers)

    def test_other_indices_and_totals(self):
        for spec, one, other, offers, found in self.some_spares():
            for index in (None, -1, *range(len(offers) + 2)):
                right = self.check(spec, one, other, offers, index, found.total, found.answers)
                self.assertEqual(right, index == found.index)
            for total in (None, -1, 0, *range((found.total or 0) - 2, (found.total or 0) + 3)):
                right = self.check(spec, one, other, offers, found.index, total, found.answers)
                self.assertEqual(right, total == found.total)
            self.check(spec, one, other, offers, None, None, found.answers)

    def test_a_later_one_of_several_least_totals(self):
        offers = [(1, 0, 4), (1, 0, 3), (6, 0, 3), (1, 0, 3)]
        found = spare(make(ROW), ONE, OTHER, offers)
        for index in range(5):
            shown = Spare(index, 10, found.answers).shows(make(ROW), ONE, OTHER, offers)
            self.assertIs(shown, index == 2)

    def test_answers_left_out_or_too_many(self):
        for spec, one, other, offers, found in self.some_spares():
            answers = found.answers
            changed = [[], answers + answers, answers + [Knot([one])], answers + [Plan((), {})], [Knot([])] + answers]
            changed += [answers[:at] + answers[at + 1:] for at in range(len(answers))]
            changed += [answers[:at] + [answers[at]] + answers[at:] for at in range(len(answers))]
            for each in changed:
                self.assertFalse(self.check(spec, one, other, offers, found.index, found.total, each))
            self.assertIs(Spare(None, None, []).shows(make(spec), one, other, offers), False)

    def test_answers_that_are_wrong(self):
        for spec, one, other, offers, found in self.some_spares():
            for at, answer in enumerate(found.answers):
                others = [Knot([]), Knot([one]), Plan((), {}), Plan((), {one: 1})]
                if isinstance(answer, Plan):
                    others += [Plan(answer.way, {}), Plan(answer.way[1:], answer.floors), Plan((), answer.floors)]
                for each in others:
                    changed = found.answers[:at] + [each] + found.answers[at + 1:]
                    self.check(spec, one, other, offers, found.index, found.total, changed)
                    self.check(spec, one, other, offers, None, None, changed)

    def test_answers_of_another_order(self):
        found = spare(make(ROW), ONE, OTHER, OFFERS)
        for order in itertools.permutations(range(4)):
            answers = [found.answers[at] for at in order]
            right = self.check(ROW, ONE, OTHER, OFFERS, found.index, found.total, answers)
            self.assertEqual(right, order == (0, 1, 2, 3))

    def test_any_right_answers(self):
        found = spare(make(ROW), ONE, OTHER, OFFERS)
        answers = [Knot([((0,), (1,)), ((0,), (1,))])]
        for room, zone, _ in OFFERS:
            spec = widened(ROW, room, zone)
            left = {placing: least_costs(spec, placing)[OTHER] for placing in least_costs(spec, OTHER)}
            way = plan(make(spec), ONE, OTHER).way
            answers.append(Plan(way, left))
        self.assertFalse(answers == found.answers)
        self.assertIs(Spare(3, 10, answers).shows(make(ROW), ONE, OTHER, OFFERS), True)

    def test_a_knot_for_a_plan(self):
        found = spare(make(ROW), ONE, OTHER, OFFERS)
        for at in range(1, 4):
            answers = found.answers[:at] + [Knot([ONE])] + found.answers[at + 1:]
            self.assertIs(Spare(3, 10, answers).shows(make(ROW), ONE, OTHER, OFFERS), False)

    def test_other_offers(self):
        found = spare(make(ROW), ONE, OTHER, OFFERS)
        self.assertIs(found.shows(make(ROW), ONE, OTHER, [(1, 0, 4), (1, 1, 1), (6, 0, 2)]), False)
        self.assertIs(found.shows(make(ROW), ONE, OTHER, [(1, 0, 9), (1, 1, 9), (6, 0, 3)]), True)
        self.assertIs(found.shows(make(ROW), ONE, OTHER, [(1, 0, 3), (1, 1, 1), (6, 0, 3)]), False)
        self.assertIs(found.shows(make(ROW), ONE, OTHER, [(1, 0, 1), (1, 1, 1), (6, 0, 3)]), False)
        self.assertIs(found.shows(make(ROW), ONE, OTHER, [(1, 0, 4), (1, 0, 1), (6, 0, 3)]), False)
        self.assertIs(found.shows(make(ROW), ONE, OTHER, OFFERS[:2]), False)
        self.assertIs(found.shows(make(ROW), OTHER, ONE, OFFERS), False)

    def test_current_attributes(self):
        found = spare(make(ROW), ONE, OTHER, OFFERS)
        last = found.answers.pop()
        self.assertIs(found.shows(make(ROW), ONE, OTHER, OFFERS), False)
        found.answers.append(last)
        self.assertIs(found.shows(make(ROW), ONE, OTHER, OFFERS), True)
        found.total = 11
        self.assertIs(found.shows(make(ROW), ONE, OTHER, OFFERS), False)
        found.total, found.index = 10, 2
        self.assertIs(found.shows(make(ROW), ONE, OTHER, OFFERS), False)
        found.index = 3
        found.answers[0].placings.clear()
        self.assertIs(found.shows(make(ROW), ONE, OTHER, OFFERS), False)


class LeastSpareTest(Case):

    def test_against_a_search(self):
        seen = set()
        for at, spec in enumerate(NARROW):
            for number, (one, other) in enumerate(pairs(spec, 8)):
                zone = (at + number) % 4
                wider = [spec] + [widened(spec, room, zone) for room in range(1, 7)]
                expected = next((room for room, each in enumerate(wider) if other in least_costs(each, one)), None)
                self.assertEqual(least_spare(make(spec), one, other, zone), expected, (spec, one, other, zone))
                seen.add(expected)
        self.assertLessEqual({0, 1, 2, None}, seen)

    def test_each_room(self):
        for spec, one, other, zone, room in ROOMS:
            for less in range(room):
                wider = widened(spec, less, zone) if less else spec
                self.assertNotIn(other, least_costs(wider, one))
            self.assertIn(other, least_costs(widened(spec, room, zone), one))
            self.assertEqual(least_spare(make(spec), one, other, zone), room)

    def test_apart_makes_zones_matter(self):
        spec = ((1, 1), (1,), (0, 0), 1, 1, True)
        for zone, expected in ((0, None), (1, 1), (2, 1), (3, 1)):
            self.assertEqual(least_spare(make(spec), ((0,),), ((1,),), zone), expected)

    def test_nothing_to_do(self):
        for spec in NARROW:
            one = listed(spec)[0]
            for zone in range(4):
                self.assertEqual(least_spare(make(spec), one, one, zone), 0)


class RefusalsTest(Case):

    def calls(self):
        """Return functions of a cluster, two placings and offers."""
        return [spare, Spare(None, None, []).shows]

    def test_what_is_no_cluster(self):
        for value in [*odd_values(), Cluster, ROW, LooksLikeACluster()]:
            for function in self.calls():
                self.assertIsNone(self.refused(BadCluster, function, value, ONE, OTHER, OFFERS).part)
            self.assertIsNone(self.refused(BadCluster, least_spare, value, ONE, OTHER, 0).part)

    def test_what_is_no_placing(self):
        for value in spoiled(ONE) + [((2,), (1,)), ((0,), (0,)), ((0,),), [(0,), (1,)]]:
            for one, other in ((value, OTHER), (ONE, value), (value, value)):
                for function in self.calls():
                    self.refused(BadPlacing, function, make(ROW), one, other, OFFERS)
                self.refused(BadPlacing, least_spare, make(ROW), one, other, 0)

    def test_placings_on_the_spare_machine(self):
        # The last placing has no copies on the spare machine, so it is one of the cluster itself.
        for function in self.calls():
            self.refused(BadPlacing, function, make(ROW), ONE, ((2,), (1,)), [(6, 0, 0)])
        self.refused(BadPlacing, least_spare, make(ROW), ONE, ((2,), (1,)), 0)

    def test_what_are_no_offers(self):
        wrong = [value for value in odd_values() if not (isinstance(value, (list, tuple)) and len(value) == 0)]
        wrong += [[(1, 0, 0)] * 5, ((1, 0, 0),) * 5, [[1, 0, 0]], [(1, 0)], [(1, 0, 0, 0)], (1, 0, 0), {(1, 0, 0)},
                  [(0, 0, 0)], [(7, 0, 0)], [(1, -1, 0)], [(1, 4, 0)], [(1, 0, -1)], [(1, 0, 21)], [()], [None],
                  [(1, 0, 0), (1, 0, 21)], [(1, 0, 0), (1, 0, 0), (1, 0, 0), (1, 0)], {(1, 0, 0): 1},
                  iter([(1, 0, 0)]), "", b"", range(0), [(1, 0, True)], [(True, 0, 0)], [(1, False, 0)]]
        for at in range(3):
            wrong += [[(1, 0, 0)[:at] + (odd,) + (1, 0, 0)[at + 1:]] for odd in odd_values()]
        for value in wrong:
            for function in self.calls():
                self.refused(BadOffers, function, make(ROW), ONE, OTHER, value)

    def test_offers_at_their_limits(self):
        for offer in ((1, 0, 0), (6, 0, 0), (1, 3, 0), (1, 0, 20), (6, 3, 20)):
            for offers in ([offer], (offer,), [offer] * 4):
                self.assertIs(spare(make(ROW), ONE, OTHER, offers).shows(make(ROW), ONE, OTHER, offers), True)

    def test_offers_for_four_machines(self):
        for spec in FULL:
            one = listed(spec)[0]
            for offers in ([(1, 0, 0)], ((6, 3, 20),), [(1, 0, 0)] * 4, [None], None, {}, ""):
                for function in self.calls():
                    self.refused(BadOffers, function, make(spec), one, one, offers)
            for zone in (0, 1, 2, 3, 4, None):
                self.refused(BadOffers, least_spare, make(spec), one, one, zone)

    def test_what_is_no_zone(self):
        for value in [*odd_values(), 4, 5, -1, (0,), [0], "0"]:
            self.refused(BadOffers, least_spare, make(ROW), ONE, OTHER, value)

    def test_the_error_that_is_documented_first(self):
        for bad in (None, [None], True, 99, "no", ((9,),) * 4):
            for one, other in itertools.product((bad, *LARGE_PAIR), repeat=2):
                for function in [*self.calls(), least_spare]:
                    for last in (bad, []):
                        self.assertIsNone(self.refused(BadCluster, function, bad, one, other, last).part)
                        if bad in (one, other):
                            self.refused(BadPlacing, function, make(LARGE), one, other, last)
                            self.refused(BadPlacing, function, make(WIDEST), one, other, last)
            for function in [*self.calls(), least_spare]:
                self.refused(BadOffers, function, make(LARGE), *LARGE_PAIR, bad)
                self.refused(BadOffers, function, make(WIDEST), *LARGE_PAIR, bad)


class LimitTest(Case):

    def test_the_cluster_itself_is_too_large(self):
        self.assertEqual(least(LARGE, *LARGE_PAIR), "TooLarge")
        for offers in ([], [(1, 0, 0)]):
            self.refused(TooLarge, spare, make(LARGE), *LARGE_PAIR, offers)
            self.assertIs(Spare(None, None, []).shows(make(LARGE), *LARGE_PAIR, offers), False)
        self.refused(TooLarge, least_spare, make(LARGE), *LARGE_PAIR, 0)

    def test_with_a_spare_machine(self):
        found = [least(widened(CROWDED, room, 2), *CROWDED_PAIR) for room in range(2, 5)]
        self.assertEqual(found, [None, 43, "TooLarge"])
        fine = [(3, 2, 0), (1, 2, 5)]
        self.assertEqual(spare(make(CROWDED), *CROWDED_PAIR, fine).total, 43)
        for offers in ([(4, 2, 0)], [*fine, (4, 2, 9)], [(6, 2, 1), *fine]):
            self.refused(TooLarge, spare, make(CROWDED), *CROWDED_PAIR, offers)

    def test_rooms_after_the_first_one_with_a_way_are_not_looked_at(self):
        self.assertEqual(least_spare(make(CROWDED), *CROWDED_PAIR, 2), 3)

    def test_the_first_one_with_a_way_is_too_large(self):
        found = [least(spec, *TOO_WIDE_PAIR) for spec in (TOO_WIDE, *[widened(TOO_WIDE, room, 2) for room in (1, 2, 3)])]
        self.assertEqual(found, [None, None, None, "TooLarge"])
        self.refused(TooLarge, least_spare, make(TOO_WIDE), *TOO_WIDE_PAIR, 2)

    def test_no_machine_is_added_if_there_is_a_way(self):
        # With a spare machine, it would be too large.
        spec, one, other = ((6, 6, 6), (1, 1, 1), (0, 1, 2), 3, 1, False), ((0,),) * 3, ((1, 2),) * 3
        self.assertEqual(least(spec, one, other), 21)
        self.assertEqual(least(widened(spec, 6, 3), one, other), "TooLarge")
        self.assertEqual(least_spare(make(spec), one, other, 3), 0)
        self.refused(TooLarge, spare, make(spec), one, other, [(6, 3, 0)])

    def test_shows_has_no_limit(self):
        spec = widened(CROWDED, 4, 2)
        one, other = CROWDED_PAIR
        costs = least_costs(spec, one)
        total = costs[other]
        self.assertGreater(sum(cost < total for cost in costs.values()), 2000)
        floors = {placing: total - cost for placing, cost in costs.items() if cost < total}
        way = plan(make(widened(CROWDED, 3, 2)), one, other).way
        self.assertEqual(sum(search_price(spec, step) for step in way), total)
        knot = plan(make(CROWDED), one, other)
        for price in (0, 5):
            found = Spare(1, total + price, [knot, Plan(way, floors)])
            self.assertIs(found.shows(make(CROWDED), one, other, [(4, 2, price)]), True)
            self.assertIs(found.shows(make(CROWDED), one, other, [(4, 2, price + 1)]), False)

    def test_not_due_among_many_placings(self):
        one, other = ((0,),) * 4, ((0,), (0,), (0, 2), (0,))
        found = spare(make(LARGE), one, other, [(6, 0, 0), (6, 2, 0)])
        self.assertEqual((found.index, found.total), (0, 3))
        self.assertEqual(least_spare(make(LARGE), one, other, 0), 0)


class ObjectsTest(Case):

    def test_interface(self):
        parameters = {"spare": ["cluster", "one", "other", "offers"], "Spare": ["index", "total", "answers"],
                      "least_spare": ["cluster", "one", "other", "zone"]}
        for name, names in parameters.items():
            self.assertEqual(list(inspect.signature(getattr(module, name)).parameters), names)
            self.assertEqual(getattr(module, name).__module__, "shardmove.spares")
        self.assertEqual(list(inspect.signature(vars(Spare)["shows"]).parameters)[1:],
                         ["cluster", "one", "other", "offers"])
        self.assertIn("__eq__", vars(Spare))

    def test_by_keyword(self):
        found = spare(cluster=make(ROW), one=ONE, other=OTHER, offers=OFFERS)
        self.assertTrue(found == Spare(answers=found.answers, total=10, index=3))
        self.assertIs(found.shows(cluster=make(ROW), one=ONE, other=OTHER, offers=OFFERS), True)
        self.assertEqual(least_spare(cluster=make(ROW), one=ONE, other=OTHER, zone=3), 1)

    def test_the_list_is_copied(self):
        answers = [Knot([ONE])]
        found = Spare(None, None, answers)
        answers.append(Plan((), {}))
        self.assertEqual(found.answers, [Knot([ONE])])
        found.answers.clear()
        self.assertEqual(len(answers), 2)

    def test_nothing_that_is_handed_in_changes(self):
        cluster, offers = make(ROW), list(OFFERS)
        found = spare(cluster, ONE, OTHER, offers)
        before = Spare(found.index, found.total, found.answers)
        found.shows(cluster, ONE, OTHER, offers)
        least_spare(cluster, ONE, OTHER, 0)
        self.assertEqual((cluster, offers), (make(ROW), OFFERS))
        self.assertTrue(found == before)
        found.answers.clear()
        self.assertEqual(len(spare(cluster, ONE, OTHER, offers).answers), 4)

    def test_a_refused_call_changes_nothing(self):
        found = spare(make(ROW), ONE, OTHER, OFFERS)
        before = Spare(found.index, found.total, found.answers)
        self.refused(BadOffers, found.shows, make(ROW), ONE, OTHER, [(0, 0, 0)])
        self.refused(TooLarge, spare, make(LARGE), *LARGE_PAIR, [])
        self.assertTrue(found == before)
        self.assertTrue(spare(make(ROW), ONE, OTHER, OFFERS) == before)

    def test_equal_objects(self):
        plans = [Plan((), {ONE: 1}), Knot([ONE])]
        self.assertTrue(Spare(0, 1, plans) == Spare(0, 1, [Plan((), {ONE: 1}), Knot([ONE])]))
        self.assertFalse(Spare(0, 1, plans) != Spare(0, 1, list(plans)))
        for other in (Spare(1, 1, plans), Spare(0, 2, plans), Spare(0, 1, plans[:1]), Spare(0, 1, plans[::-1]),
                      Spare(0, 1, []), Spare(None, 1, plans), Spare(0, None, plans),
                      Spare(0, 1, [Plan((), {ONE: 2}), Knot([ONE])]), Spare(0, 1, [Plan((), {ONE: 1}), Knot([])])):
            self.assertFalse(Spare(0, 1, plans) == other)
            self.assertTrue(Spare(0, 1, plans) != other)


if __name__ == "__main__":
    unittest.main()
