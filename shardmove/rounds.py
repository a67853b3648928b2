"""Rounds: several steps at once under a bound of traffic, and as few rounds as possible one after the other."""

from shardmove.checks import is_number
from shardmove.errors import BadRound, BadTraffic
from shardmove.placings import check_both, check_placing, is_placing
from shardmove.turns import few_placings, placing_after_turn, turn_between


class Schedule:
    """As few rounds as possible, and floors that show that there are no fewer."""

    def __init__(self, rounds, floors):
        self.rounds = rounds
        self.floors = {placing: floor for placing, floor in floors.items()}

    def __eq__(self, other):
        return isinstance(other, Schedule) and self.rounds == other.rounds and self.floors == other.floors

    def shows(self, cluster, one, other, traffic):
        """Say whether the rounds lead from one placing to another, and the floors show that no fewer do."""
        every = _checked(cluster, one, other, traffic)
        if _end_of(cluster, one, self.rounds, traffic) != other:
            return False
        if self.rounds and self.floors.get(one, 0) < len(self.rounds):
            return False
        return all([_holds(cluster, self.floors, placing, other, traffic, every) for placing in self.floors])


class Jam:
    """Placings that contain the first one, but not the last one, and that no round leaves."""

    def __init__(self, placings):
        self.placings = list(placings)

    def __eq__(self, other):
        return isinstance(other, Jam) and self.placings == other.placings

    def shows(self, cluster, one, other, traffic):
        """Say whether the placings show that no rounds lead from one placing to another."""
        every = _checked(cluster, one, other, traffic)
        if not all([is_placing(cluster, placing) for placing in self.placings]):
            return False
        inside = {placing: True for placing in self.placings}
        if one not in inside or other in inside:
            return False
        outside = [placing for placing in every if placing not in inside]
        return not any([_leads_to_any(cluster, placing, outside, traffic) for placing in inside])


def after_round(cluster, placing, traffic, turn):
    """Return the placing after a round."""
    check_placing(cluster, placing)
    _check_traffic(traffic)
    result = placing_after_turn(cluster, placing, traffic, turn)
    if result is None:
        raise BadRound("not a round that is possible")
    return result


def round_between(cluster, one, other, traffic):
    """Return a round that leads from one placing to another one, None if there is none."""
    check_both(cluster, one, other)
    _check_traffic(traffic)
    return turn_between(cluster, one, other, traffic)


def schedule(cluster, one, other, traffic):
    """Return a Schedule for two placings, a Jam if no rounds lead from the one to the other."""
    counts, ends = _counted(cluster, one, other, traffic)
    if other not in counts:
        return Jam(sorted(counts))
    many = counts[other]
    rounds = ()
    here = other
    while here != one:
        turn, here = ends[here]
        rounds = (turn,) + rounds
    # A round leads at most one further from the first placing, so what is left of the number can be a floor.
    return Schedule(rounds, {placing: many - count for placing, count in counts.items() if count < many})


def fewest_rounds(cluster, one, other, traffic):
    """Return the least number of rounds from one placing to another, None if no rounds lead there."""
    counts, _ = _counted(cluster, one, other, traffic)
    return counts.get(other)


def _check_traffic(value):
    """Refuse what is no bound of traffic."""
    if not is_number(value, 1, 6):
        raise BadTraffic("not an integer from 1 to 6")


def _checked(cluster, one, other, traffic):
    """Return all placings of a cluster, unless an argument has to be refused."""
    check_both(cluster, one, other)
    _check_traffic(traffic)
    return few_placings(cluster)


def _counted(cluster, one, other, traffic):
    """Return two dicts: how many rounds lead to placings, and the last round to each with the placing before.

    They have the placings up to another one, fewer rounds first; all that rounds lead to if it is not among them.
    """
    every = _checked(cluster, one, other, traffic)
    counts = {one: 0}
    ends = {}
    layer = [one]
    while layer and other not in counts:
        fresh = []
        for here in layer:
            for there in every:
                turn = None if there in counts else turn_between(cluster, here, there, traffic)
                if turn is not None:
                    counts[there] = counts[here] + 1
                    ends[there] = (turn, here)
                    fresh.append(there)
        layer = fresh
    return counts, ends


def _end_of(cluster, placing, rounds, traffic):
    """Return the placing to which rounds lead, None if not all of them are possible."""
    here = placing
    for turn in rounds:
        here = placing_after_turn(cluster, here, traffic, turn)
        if here is None:
            return None
    return here


def _holds(cluster, floors, placing, other, traffic, every):
    """Say whether the floor of a placing is as it must be, if it has to reach another placing."""
    if not is_placing(cluster, placing):
        return False
    needed = floors[placing] - 1
    if needed < 0:
        return True
    if placing == other:
        return False
    if needed == 0:
        return True
    lower = [there for there in every if floors.get(there, 0) < needed]
    return not _leads_to_any(cluster, placing, lower, traffic)


def _leads_to_any(cluster, placing, listed, traffic):
    """Say whether a round leads from a placing to one of several others."""
    for there in listed:
        if turn_between(cluster, placing, there, traffic) is not None:
            return True
    return False
