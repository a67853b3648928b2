"""Ways, movers and rounds by the words of the document, found by searches that share no code with the program."""

import functools
import itertools

from tests.helpers import SPECS, allowed, candidates, search_after, search_placings, search_price

# Clusters with several regions of different sizes.
DIVIDED = [
    ((1, 2, 3, 4), (2, 3, 1, 1), (3, 2, 2, 2), 3, 1, True),
    ((4, 4, 3, 3), (2, 3, 1), (3, 1, 2, 3), 3, 2, True),
    ((4, 5, 1), (1, 2, 2, 3), (0, 2, 2), 2, 1, True),
    ((3, 1, 4, 3), (3, 1, 3, 2), (2, 1, 0, 0), 1, 1, True),
    ((3, 2, 1), (1, 2, 1, 1), (1, 2, 0), 1, 1, True),
    ((5, 3, 1), (1, 3, 2, 1), (1, 3, 1), 3, 1, False),
    ((6, 1, 4, 3), (1, 2, 3), (1, 0, 3, 1), 3, 2, False),
]
ALL_SPECS = SPECS + DIVIDED

# Clusters that are small enough to write down all rounds of each placing.
ROUND_SPECS = [ALL_SPECS[at] for at in (0, 1, 2, 3, 4, 5, 6, 7, 8, 9, 10, 11, 14, 17)] + [
    ((2, 2, 1), (2, 1), (0, 1, 1), 2, 1, False),
    ((3, 3, 3), (2, 1, 1), (0, 0, 0), 1, 1, False),
    ((2, 2, 1, 1), (1, 1), (0, 0, 0, 0), 1, 1, False),
]


@functools.lru_cache(maxsize=None)
def listed(spec):
    """Return all placings of a cluster as a tuple."""
    return tuple(search_placings(spec))


@functools.lru_cache(maxsize=None)
def edges(spec, placing):
    """Return the possible steps of a placing, each with the placing after it and its price."""
    found = [(step, search_after(spec, placing, step), search_price(spec, step)) for step in candidates(spec)]
    return tuple(edge for edge in found if edge[1] is not None)


def least_costs(spec, one, some=None, without=None, last=None):
    """Return what it costs to come to placings, by steps of some shards only, or without one of all steps.

    If there is a last one, those that cost more are left out.
    """
    costs, waiting, spent = {}, {0: [one]}, 0
    while waiting and last not in costs:
        for placing in waiting.pop(spent, []):
            if placing not in costs:
                costs[placing] = spent
                for step, result, price in edges(spec, placing):
                    if step != without and (some is None or step[1] in some):
                        waiting.setdefault(spent + price, []).append(result)
        spent += 1
    return costs


def least(spec, one, other):
    """Return what the cheapest way costs, None if there is none, or "TooLarge" if this error is due."""
    costs = least_costs(spec, one, last=other)
    total = costs.get(other)
    cheaper = [cost for cost in costs.values() if total is None or cost < total]
    return "TooLarge" if len(cheaper) > 2000 else total


def pairs(spec, most):
    """Return about so many pairs of placings of a cluster, some of them twice the same."""
    every = list(itertools.product(listed(spec), repeat=2))
    return every[::len(every) // most + 1] + [(placing, placing) for placing in listed(spec)[:3]]


def written(spec, way):
    """Say whether all items of a way are written as steps."""
    return all(step in set(candidates(spec)) for step in way)


def end(spec, one, way):
    """Return the placing after a way, None if not all of its steps are possible."""
    here = one
    for step in way:
        here = search_after(spec, here, step) if written(spec, [step]) else None
        if here is None:
            return None
    return here


def spent_on(spec, way):
    """Return what a way costs."""
    return sum(search_price(spec, step) for step in way)


def floors_are_right(floors, one, other, total, outgoing):
    """Say whether floors are as the document says, with a function from a placing to pairs of a result and a price."""
    if total > 0 and not (one in floors and floors[one] >= total):
        return False
    for placing, floor in floors.items():
        if floor > 0:
            if placing == other:
                return False
            for result, price in outgoing(placing):
                if floor - price > 0 and not (result in floors and floors[result] >= floor - price):
                    return False
    return True


def is_plan(spec, one, other, way, floors):
    """Say whether a way and floors are as a Plan must have them."""
    if end(spec, one, way) != other or spent_on(spec, way) != least_costs(spec, one)[other]:
        return False
    return floors_are_right(floors, one, other, spent_on(spec, way),
                            lambda placing: [edge[1:] for edge in edges(spec, placing)])


def is_knot(spec, one, other, placings, some=None):
    """Say whether a list of placings is as a Knot must have it, or a Movers for some shards."""
    if one not in placings or other in placings:
        return False
    return all(result in placings for placing in set(placings) for step, result, _ in edges(spec, placing)
               if some is None or step[1] in some)


def sets_of_shards(spec):
    """Return all sets of shards, in order."""
    shards = range(len(spec[1]))
    return [some for many in range(len(shards) + 1) for some in itertools.combinations(shards, many)]


def decided(spec, one, other):
    """Return the least sets of shards with a way, and the greatest without one, both in order."""
    opened = [some for some in sets_of_shards(spec) if other in least_costs(spec, one, some)]
    shut = [some for some in sets_of_shards(spec) if some not in opened]
    return ([some for some in opened if not any(set(less) < set(some) for less in opened)],
            [some for some in shut if not any(set(more) > set(some) for more in shut)])


def is_movers(spec, one, other, ways, knots):
    """Say whether ways and knots are as a Movers must have them, in any order."""
    least, greatest = decided(spec, one, other)
    if sorted(ways) != sorted(least) or sorted(knots) != sorted(greatest):
        return False
    for some, way in ways.items():
        if end(spec, one, way) != other or any(step[1] not in some for step in way):
            return False
    return all(is_knot(spec, one, other, placings, some) for some, placings in knots.items())


def traffic_of(spec, copies):
    """Return the greatest traffic of a machine."""
    return max(sum(spec[1][shard] for _, shard, source, target in copies if machine in (source, target))
               for machine in range(len(spec[0])))


def search_after_round(spec, placing, traffic, turn):
    """Return the placing after a round, None if this is not a round that is possible."""
    if len(turn) != 2 or not written(spec, turn[0] + turn[1]) or turn == ((), ()):
        return None
    copies, drops = turn
    if any(step[0] != "copy" for step in copies) or any(step[0] != "drop" for step in drops):
        return None
    order = candidates(spec)
    places = [order.index(step) for step in copies + drops]
    if places != sorted(set(places)):
        return None
    aims = [(shard, target) for _, shard, _, target in copies]
    if len(set(aims)) < len(aims) or traffic_of(spec, copies) > traffic:
        return None
    if any(source not in placing[shard] or target in placing[shard] for _, shard, source, target in copies):
        return None
    sets = [set(machines) | {target for shard, target in aims if shard == at} for at, machines in enumerate(placing)]
    full = tuple(tuple(sorted(each)) for each in sets)
    if not allowed(spec, full) or any(machine not in placing[shard] for _, shard, machine in drops):
        return None
    for _, shard, machine in drops:
        sets[shard].remove(machine)
    result = tuple(tuple(sorted(each)) for each in sets)
    return result if allowed(spec, result) else None


@functools.lru_cache(maxsize=None)
def all_rounds(spec, placing):
    """Return all rounds that are possible under some bound, each with the placing after it and its traffic."""
    machines = range(len(spec[0]))
    sources = [[None, *(("copy", shard, source, target) for source in row)]
               for shard, row in enumerate(placing) for target in machines if target not in row]
    held = [("drop", shard, machine) for shard, row in enumerate(placing) for machine in row]
    found = []
    for chosen in itertools.product(*sources):
        copies = tuple(sorted(step for step in chosen if step))
        if search_after_round(spec, placing, 10 ** 6, (copies, ())) is None and copies:
            continue
        for many in range(len(held) + 1):
            for drops in itertools.combinations(held, many):
                result = search_after_round(spec, placing, 10 ** 6, (copies, drops))
                if result is not None:
                    found.append(((copies, drops), result, traffic_of(spec, copies)))
    return tuple(found)


@functools.lru_cache(maxsize=None)
def round_results(spec, placing, traffic):
    """Return the placings to which a round leads."""
    return frozenset(result for _, result, needed in all_rounds(spec, placing) if needed <= traffic)


def round_counts(spec, one, traffic):
    """Return how many rounds it takes to come to placings."""
    counts, layer, many = {one: 0}, {one}, 0
    while layer:
        many += 1
        layer = {result for placing in layer for result in round_results(spec, placing, traffic)} - set(counts)
        counts.update(dict.fromkeys(layer, many))
    return counts


def is_schedule(spec, one, other, traffic, rounds, floors):
    """Say whether rounds and floors are as a Schedule must have them."""
    here = one
    for turn in rounds:
        here = search_after_round(spec, here, traffic, turn)
        if here is None:
            return False
    if here != other or len(rounds) != round_counts(spec, one, traffic)[other]:
        return False
    return floors_are_right(floors, one, other, len(rounds),
                            lambda placing: [(result, 1) for result in round_results(spec, placing, traffic)])


def is_jam(spec, one, other, traffic, placings):
    """Say whether a list of placings is as a Jam must have it."""
    if one not in placings or other in placings:
        return False
    return all(result in placings for placing in set(placings) for result in round_results(spec, placing, traffic))


def changed_lists(placings, others):
    """Return a list with each of its placings left out or doubled, and with each of some others added."""
    found = [[], list(reversed(placings)), placings + placings]
    for at in range(len(placings)):
        found.append(placings[:at] + placings[at + 1:])
        found.append(placings[:at] + [placings[at]] + placings[at:])
    return found + [placings + [other] for other in others] + [[other] + placings for other in others]


def changed_floors(floors, others):
    """Return floors with one of them left out, raised or lowered, or with one for each of some other placings."""
    found = [{}, dict(reversed(floors.items()))]
    for by in (-1, 1):
        found.append({placing: floor + by for placing, floor in floors.items()})
    for placing, floor in floors.items():
        found.append({key: worth for key, worth in floors.items() if key != placing})
        found += [{**floors, placing: other} for other in (floor - 1, floor + 1, floor + 50, 0, -3)]
    for placing in others:
        found += [{**floors, placing: floor} for floor in (-1, 0, 1, 2, 50)]
    return found
