"""Plans: cheapest ways with floors, lists of placings that no way leaves, and steps that must be done."""

from shardmove.errors import NoWay
from shardmove.placings import check_both, is_placing, moves, step_price, way_price
from shardmove.searches import all_shards, cheapest, end_of, is_closed, way_to


class Plan:
    """A way that costs least, and floors that show that nothing costs less."""

    def __init__(self, way, floors):
        self.way = way
        self.floors = {placing: floor for placing, floor in floors.items()}

    def __eq__(self, other):
        return isinstance(other, Plan) and self.way == other.way and self.floors == other.floors

    def shows(self, cluster, one, other):
        """Say whether the way leads from one placing to another, and the floors show that it costs least."""
        check_both(cluster, one, other)
        if end_of(cluster, one, self.way) != other:
            return False
        total = way_price(cluster, self.way)
        if total > 0 and self.floors.get(one, 0) < total:
            return False
        return all([_holds(cluster, self.floors, placing, other) for placing in self.floors])


class Knot:
    """Placings that contain the first one, but not the last one, and that no step leaves."""

    def __init__(self, placings):
        self.placings = list(placings)

    def __eq__(self, other):
        return isinstance(other, Knot) and self.placings == other.placings

    def shows(self, cluster, one, other):
        """Say whether the placings show that there is no way from one placing to another."""
        check_both(cluster, one, other)
        return is_closed(cluster, self.placings, one, other, all_shards(cluster))


def plan(cluster, one, other):
    """Return a Plan for two placings, a Knot if there is no way."""
    costs, ends = _searched(cluster, one, other)
    if other not in costs:
        return Knot(sorted(costs))
    total = costs[other]
    # No step gains more on the first placing than it costs, so what is left of the total can be a floor.
    return Plan(way_to(ends, other), {placing: total - spent for placing, spent in costs.items() if spent < total})


def least_cost(cluster, one, other):
    """Return what the cheapest way from one placing to another costs, None if there is none."""
    costs, _ = _searched(cluster, one, other)
    return costs.get(other)


def can_move(cluster, one, other):
    """Say whether there is a way from one placing to another."""
    costs, _ = _searched(cluster, one, other)
    return other in costs


def musts(cluster, one, other):
    """Return the steps that every cheapest way from one placing to another has, in order."""
    costs, ends = _searched(cluster, one, other)
    if other not in costs:
        raise NoWay("there is no way from the one placing to the other")
    shared = {}
    # The cheaper placings come first, so those before the last steps have been looked at.
    for placing in costs:
        shared[placing] = _common([shared[before] + [step] for step, before in ends[placing]])
    return shared[other]


def _searched(cluster, one, other):
    """Return what a search from one placing to another finds, with steps of all shards."""
    check_both(cluster, one, other)
    return cheapest(cluster, one, other, all_shards(cluster))


def _holds(cluster, floors, placing, other):
    """Say whether the floor of a placing is as it must be, if it has to reach another placing."""
    if not is_placing(cluster, placing):
        return False
    floor = floors[placing]
    if floor <= 0:
        return True
    if placing == other:
        return False
    for step, result in moves(cluster, placing):
        needed = floor - step_price(cluster, step)
        if needed > 0 and floors.get(result, 0) < needed:
            return False
    return True


def _common(rows):
    """Return the steps that all of several lists have, in order; none if there is no list."""
    if not rows:
        return []
    found = sorted(set(rows[0]))
    for row in rows[1:]:
        found = [step for step in found if step in row]
    return found
