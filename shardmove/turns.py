"""Rounds as pairs of a tuple of copies and a tuple of drops: which are possible, and which lead where."""

from shardmove.errors import TooLarge
from shardmove.placings import fits, has_form, may_lie, placings

MOST_FOR_ROUNDS = 300


def few_placings(cluster):
    """Return all placings of a cluster, in order, if they are few enough to look at all rounds."""
    found = placings(cluster)
    if len(found) > MOST_FOR_ROUNDS:
        raise TooLarge("more than 300 placings")
    return found


def placing_after_turn(cluster, placing, traffic, turn):
    """Return the placing after a round, None if it is not a round that is possible."""
    if not _is_turn(cluster, turn):
        return None
    copies, drops = turn
    full = _after_copies(cluster, placing, traffic, copies)
    if full is None:
        return None
    return _after_drops(cluster, placing, full, drops)


def turn_between(cluster, one, other, traffic):
    """Return a round that leads from one placing to another one, None if there is none."""
    # What a round copies it cannot drop, so the targets and the drops are plain; only the sources can be chosen.
    wanted = _lacking(one, other)
    gone = _lacking(other, one)
    if not wanted and not gone:
        return None
    copies = _copies_to(cluster, one, wanted, [traffic] * len(cluster.rooms))
    if copies is None or not _is_allowed(cluster, _joined(one, other)):
        return None
    return tuple(sorted(copies)), tuple([("drop", shard, machine) for shard, machine in gone])


def _is_turn(cluster, value):
    """Say whether a value is written as a round of the shards and machines of a cluster."""
    if not isinstance(value, tuple) or len(value) != 2:
        return False
    if not _are_steps(cluster, value[0], "copy") or not _are_steps(cluster, value[1], "drop"):
        return False
    return len(value[0]) + len(value[1]) > 0


def _are_steps(cluster, value, word):
    """Say whether a value is a tuple of steps that begin with a word, in order, none of them twice."""
    if not isinstance(value, tuple):
        return False
    if not all([has_form(cluster, step) and step[0] == word for step in value]):
        return False
    return all([step < following for step, following in zip(value, value[1:])])


def _after_copies(cluster, placing, traffic, copies):
    """Return the placing after all copies of a round, None if they are not possible at once."""
    rows = [list(machines) for machines in placing]
    busy = [0] * len(cluster.rooms)
    for _, shard, source, target in copies:
        if source not in placing[shard] or target in rows[shard]:
            return None
        rows[shard].append(target)
        busy[source] += cluster.sizes[shard]
        busy[target] += cluster.sizes[shard]
    if max(busy) > traffic:
        return None
    full = tuple([tuple(sorted(row)) for row in rows])
    return full if _is_allowed(cluster, full) else None


def _after_drops(cluster, placing, full, drops):
    """Return the placing after all drops of a round, None if they are not possible at once."""
    rows = [list(machines) for machines in full]
    for _, shard, machine in drops:
        # Not asked of the full placing: a copy that the round has made cannot be dropped in it.
        if machine not in placing[shard]:
            return None
        rows[shard].remove(machine)
    result = tuple([tuple(row) for row in rows])
    return result if _is_allowed(cluster, result) else None


def _is_allowed(cluster, value):
    """Say whether ascending tuples of machines, one for each shard, are a placing."""
    return all([may_lie(cluster, machines) for machines in value]) and fits(cluster, value)


def _lacking(one, other):
    """Return pairs of a shard and a machine with a copy in the other placing, but not in the one, in order."""
    return [(shard, machine) for shard, machines in enumerate(other)
            for machine in machines if machine not in one[shard]]


def _joined(one, other):
    """Return what has the copies of both placings."""
    return tuple([tuple(sorted(set(here) | set(there))) for here, there in zip(one, other)])


def _copies_to(cluster, placing, wanted, free):
    """Return copies to all pairs of a shard and a target, None if the free traffic allows no choice of sources."""
    if not wanted:
        return []
    shard, target = wanted[0]
    for source in placing[shard]:
        left = list(free)
        left[source] -= cluster.sizes[shard]
        left[target] -= cluster.sizes[shard]
        if min(left) >= 0:
            rest = _copies_to(cluster, placing, wanted[1:], left)
            if rest is not None:
                return [("copy", shard, source, target), *rest]
    return None
