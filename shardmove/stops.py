"""Stops: what is left if a way stops, and what going on and going back cost from there."""

from shardmove.placings import walk
from shardmove.plans import least_cost


def left(cluster, placing, way):
    """Return the placings before, between and after the steps of a way, each once, as the way comes to them first."""
    return _each_once(walk(cluster, placing, way))


def forward(cluster, placing, way):
    """Return what going on to the end of a way costs, for all placings that can be left."""
    passed = walk(cluster, placing, way)
    return _costs(cluster, passed, passed[-1])


def back(cluster, placing, way):
    """Return what going back to the beginning of a way costs, for all placings that can be left."""
    passed = walk(cluster, placing, way)
    return _costs(cluster, passed, passed[0])


def turning(cluster, placing, way):
    """Return after how many steps going on costs less than going back for the first time, if ever; else all steps."""
    passed = walk(cluster, placing, way)
    on = _costs(cluster, passed, passed[-1])
    home = _costs(cluster, passed, passed[0])
    for index, here in enumerate(passed):
        if on[here] < home[here]:
            return index
    return len(passed) - 1


def detours(cluster, placing, way):
    """Return the indices of the steps after which going on costs at least as much as before."""
    passed = walk(cluster, placing, way)
    on = _costs(cluster, passed, passed[-1])
    return [index for index in range(len(passed) - 1) if on[passed[index + 1]] >= on[passed[index]]]


def _each_once(passed):
    """Return the placings of a list, each where it stands first."""
    return list({placing: True for placing in passed})


def _costs(cluster, passed, goal):
    """Return what the cheapest ways to a placing cost, for each of several others."""
    return {placing: least_cost(cluster, placing, goal) for placing in _each_once(passed)}
