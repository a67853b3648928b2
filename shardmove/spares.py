"""Spares: one more machine among several offers, so that a move costs least in all, or is possible at all."""

from shardmove.checks import is_number
from shardmove.clusters import Cluster
from shardmove.errors import BadOffers
from shardmove.placings import check_both, way_price
from shardmove.plans import Plan, can_move, plan

MOST_MACHINES = 4
MOST_OFFERS = 4


class Spare:
    """What is found for a cluster itself and with each spare machine, and which of these is the cheapest."""

    def __init__(self, index, total, answers):
        self.index = index
        self.total = total
        self.answers = list(answers)

    def __eq__(self, other):
        return (isinstance(other, Spare) and self.index == other.index and self.total == other.total
                and self.answers == other.answers)

    def shows(self, cluster, one, other, offers):
        """Say whether all answers are right, and the index and the total are those of the first cheapest one."""
        _check(cluster, one, other, offers)
        clusters = _clusters(cluster, offers)
        if len(self.answers) != len(clusters):
            return False
        if not all([answer.shows(wider, one, other) for answer, wider in zip(self.answers, clusters)]):
            return False
        return (self.index, self.total) == _least(_totals(clusters, self.answers, offers))


def spare(cluster, one, other, offers):
    """Return a Spare for two placings and offers of spare machines."""
    _check(cluster, one, other, offers)
    clusters = _clusters(cluster, offers)
    answers = [plan(wider, one, other) for wider in clusters]
    index, total = _least(_totals(clusters, answers, offers))
    return Spare(index, total, answers)


def least_spare(cluster, one, other, zone):
    """Return the least room of a spare machine in a zone with which there is a way, 0 if none is needed."""
    check_both(cluster, one, other)
    if not is_number(zone, 0, 3) or len(cluster.rooms) == MOST_MACHINES:
        raise BadOffers("not a zone, or no machine can be added")
    if can_move(cluster, one, other):
        return 0
    for room in range(1, 7):
        if can_move(_widened(cluster, room, zone), one, other):
            return room
    return None


def _check(cluster, one, other, offers):
    """Refuse what is no cluster, what are not two placings of it, and then what are no offers for it."""
    check_both(cluster, one, other)
    if not isinstance(offers, (list, tuple)) or not all([_is_offer(offer) for offer in offers]):
        raise BadOffers("not a list or tuple of offers")
    if len(offers) > MOST_OFFERS or len(cluster.rooms) == MOST_MACHINES and len(offers) > 0:
        raise BadOffers("more offers than are allowed for the cluster")


def _is_offer(value):
    """Say whether a value is a triple of a room, a zone and a price."""
    if not isinstance(value, tuple) or len(value) != 3:
        return False
    return is_number(value[0], 1, 6) and is_number(value[1], 0, 3) and is_number(value[2], 0, 20)


def _clusters(cluster, offers):
    """Return a cluster itself, and then the one with the spare machine of each offer."""
    return [cluster] + [_widened(cluster, room, zone) for room, zone, _ in offers]


def _widened(cluster, room, zone):
    """Return a cluster with one more machine after the others."""
    return Cluster(cluster.rooms + (room,), cluster.sizes, zones=cluster.zones + (zone,), far=cluster.far,
                   alive=cluster.alive, apart=cluster.apart)


def _totals(clusters, answers, offers):
    """Return the total of each answer, None for a knot; the answers must be right."""
    prices = [0] + [price for _, _, price in offers]
    return [way_price(wider, answer.way) + price if isinstance(answer, Plan) else None
            for wider, answer, price in zip(clusters, answers, prices)]


def _least(totals):
    """Return the index of the first least total and this total, both None if there is none."""
    known = [total for total in totals if total is not None]
    if not known:
        return None, None
    return totals.index(min(known)), min(known)
