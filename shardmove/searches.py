"""What ways lead to: what placings cost, all placings of a region, and lists that no way leaves."""

from heapq import heappop, heappush

from shardmove.errors import TooLarge
from shardmove.placings import MOST_PLACINGS, is_placing, moves, placing_after, step_price


def all_shards(cluster):
    """Return the set of all shards, an ascending tuple."""
    return tuple(range(len(cluster.sizes)))


def cheapest(cluster, one, other, some):
    """Return two dicts about the cheapest ways from one placing with steps of some shards only.

    The first one says what it costs to come to a placing, for all that cost less than another one, then for this
    other one; for all there are, if there is no way to it. The second one has all pairs of a last step of a cheapest
    way to a placing and the placing before this step.
    """
    costs = {}
    ends = {one: []}
    best = {one: 0}
    queue = [(0, one)]
    while queue:
        spent, here = heappop(queue)
        # Steps cost at least 1, so nothing is still to be found that costs as little as this.
        if best.get(other) == spent:
            costs[other] = spent
            return costs, ends
        if here not in costs:
            costs[here] = spent
            if len(costs) > MOST_PLACINGS:
                raise TooLarge("cheaper ways lead to more than 2000 placings")
            for step, result in moves(cluster, here):
                total = spent + step_price(cluster, step)
                known = best.get(result, total + 1)
                if step[1] not in some or total > known:
                    continue
                if total < known:
                    best[result] = total
                    ends[result] = []
                    heappush(queue, (total, result))
                ends[result].append((step, here))
    return costs, ends


def way_to(ends, other):
    """Return a cheapest way to a placing, from the second dict of a search."""
    way = ()
    here = other
    while ends[here]:
        step, here = ends[here][0]
        way = (step,) + way
    return way


def region_of(cluster, placing):
    """Return the placings to which there is a way from a placing, in order."""
    seen = {placing: True}
    waiting = [placing]
    while waiting:
        here = waiting.pop()
        for _, result in moves(cluster, here):
            if result not in seen:
                seen[result] = True
                waiting.append(result)
        if len(seen) > MOST_PLACINGS:
            raise TooLarge("steps lead to more than 2000 placings")
    return sorted(seen)


def end_of(cluster, placing, way):
    """Return the placing to which a way leads, None if not all of its steps are possible."""
    here = placing
    for step in way:
        here = placing_after(cluster, here, step)
        if here is None:
            return None
    return here


def is_closed(cluster, listed, one, other, some):
    """Say whether a list of placings has one, not another, and whatever steps of some shards lead to from it."""
    if not all([is_placing(cluster, placing) for placing in listed]):
        return False
    inside = {placing: True for placing in listed}
    if one not in inside or other in inside:
        return False
    for placing in inside:
        if not all([result in inside for step, result in moves(cluster, placing) if step[1] in some]):
            return False
    return True
