"""Movers: the sets of shards with whose steps a way is possible, and those with which there is none."""

from shardmove.checks import is_ascending
from shardmove.errors import BadMovers
from shardmove.placings import check_both, subsets
from shardmove.searches import all_shards, cheapest, end_of, is_closed, region_of, way_to


class Movers:
    """Ways with the least sets of shards, and closed lists of placings for the greatest sets without one."""

    def __init__(self, ways, knots):
        self.ways = {some: way for some, way in ways.items()}
        self.knots = {some: list(listed) for some, listed in knots.items()}

    def __eq__(self, other):
        return isinstance(other, Movers) and self.ways == other.ways and self.knots == other.knots

    def shows(self, cluster, one, other):
        """Say whether these are just the least sets and the greatest ones, and their ways and lists are right."""
        check_both(cluster, one, other)
        return (_are_sets(cluster, self.ways, self.knots)
                and all([_is_way(cluster, one, other, some, way) for some, way in self.ways.items()])
                and all([is_closed(cluster, listed, one, other, some) for some, listed in self.knots.items()]))


def movers(cluster, one, other):
    """Return the Movers for two placings."""
    check_both(cluster, one, other)
    # Only to refuse what is too large: with fewer shards, ways lead to a part of this region.
    region_of(cluster, one)
    ways = {}
    shut = {}
    for some in _sets_of_shards(cluster):
        if not any([_is_within(least, some) for least in ways]):
            costs, ends = cheapest(cluster, one, other, some)
            if other in costs:
                ways[some] = way_to(ends, other)
            else:
                shut[some] = sorted(costs)
    knots = {some: listed for some, listed in shut.items()
             if not any([some != more and _is_within(some, more) for more in shut])}
    return Movers(ways, knots)


def least_movers(cluster, one, other):
    """Return the least sets of shards with which there is a way from one placing to another, in order."""
    return list(movers(cluster, one, other).ways)


def cost_with(cluster, one, other, some):
    """Return what the cheapest way with some movers costs, None if there is none."""
    check_both(cluster, one, other)
    if not is_ascending(some, len(cluster.sizes)):
        raise BadMovers("not an ascending tuple of shards")
    region_of(cluster, one)
    costs, _ = cheapest(cluster, one, other, some)
    return costs.get(other)


def _sets_of_shards(cluster):
    """Return all sets of shards, by their sizes, then as tuples."""
    return sorted(subsets(len(cluster.sizes)), key=lambda some: (len(some), some))


def _is_within(some, more):
    """Say whether a set of shards is contained in another one."""
    return all([shard in more for shard in some])


def _is_way(cluster, one, other, some, way):
    """Say whether a way leads from one placing to another with steps of some shards only."""
    return end_of(cluster, one, way) == other and all([step[1] in some for step in way])


def _are_sets(cluster, ways, knots):
    """Say whether no set of either dict is too many, and each set of shards is decided by one of them."""
    count = len(all_shards(cluster))
    if not all([is_ascending(some, count) for some in [*ways, *knots]]):
        return False
    if _has_nested(ways) or _has_nested(knots):
        return False
    for some in _sets_of_shards(cluster):
        opened = any([_is_within(least, some) for least in ways])
        if not opened and not any([_is_within(some, most) for most in knots]):
            return False
    return True


def _has_nested(sets):
    """Say whether one of several sets of shards is contained in another one."""
    return any([some != more and _is_within(some, more) for some in sets for more in sets])
