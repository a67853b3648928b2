"""Placings of the shards of a cluster, and the steps from one placing to the next."""

from shardmove.checks import is_ascending, is_number
from shardmove.clusters import check_cluster
from shardmove.errors import BadPlacing, BadStep, BadSteps, TooLarge

MOST_PLACINGS = 2000


def is_placing(cluster, value):
    """Say whether a value of any kind is a placing of a cluster."""
    check_cluster(cluster)
    if not isinstance(value, tuple) or len(value) != len(cluster.sizes):
        return False
    if not all([is_ascending(machines, len(cluster.rooms)) for machines in value]):
        return False
    return all([may_lie(cluster, machines) for machines in value]) and fits(cluster, value)


def placings(cluster):
    """Return all placings of a cluster, in order."""
    check_cluster(cluster)
    found = []
    _collect(cluster, _choices(cluster), (), cluster.rooms, found)
    return found


def loads(cluster, placing):
    """Return what each machine holds together."""
    check_placing(cluster, placing)
    return held(cluster, placing)


def steps(cluster, placing):
    """Return the steps that are possible in a placing, in order."""
    check_placing(cluster, placing)
    return [step for step, _ in moves(cluster, placing)]


def after(cluster, placing, step):
    """Return the placing after a step."""
    check_placing(cluster, placing)
    result = placing_after(cluster, placing, step)
    if result is None:
        raise BadStep("not a step that is possible")
    return result


def price(cluster, placing, step):
    """Return the price of a step that is possible in a placing."""
    after(cluster, placing, step)
    return step_price(cluster, step)


def walk(cluster, placing, way):
    """Return the placings before, between and after the steps of a way."""
    check_placing(cluster, placing)
    if not isinstance(way, (list, tuple)):
        raise BadSteps(None)
    passed = [placing]
    for index, step in enumerate(way):
        result = placing_after(cluster, passed[-1], step)
        if result is None:
            raise BadSteps(index)
        passed.append(result)
    return passed


def cost(cluster, placing, way):
    """Return what a way costs."""
    walk(cluster, placing, way)
    return way_price(cluster, way)


def check_placing(cluster, value):
    """Refuse what is no cluster, and then what is not a placing of it."""
    if not is_placing(cluster, value):
        raise BadPlacing("not a placing of the cluster")


def check_both(cluster, one, other):
    """Refuse what is no cluster, and then what are not two placings of it."""
    check_placing(cluster, one)
    check_placing(cluster, other)


def held(cluster, placing):
    """Return what each machine holds together, for copies that may be too many."""
    sums = [0] * len(cluster.rooms)
    for size, machines in zip(cluster.sizes, placing):
        for machine in machines:
            sums[machine] += size
    return sums


def fits(cluster, placing):
    """Say whether no machine is too full."""
    return all([load <= room for load, room in zip(held(cluster, placing), cluster.rooms)])


def may_lie(cluster, machines):
    """Say whether one shard may have its copies on just these machines, room aside."""
    if len(machines) < cluster.alive:
        return False
    return not cluster.apart or len({cluster.zones[machine] for machine in machines}) == len(machines)


def moves(cluster, placing):
    """Return pairs of a step that is possible and the placing after it, in the order of the steps."""
    sums = held(cluster, placing)
    found = []
    for shard, machines in enumerate(placing):
        grown = [(target, _copied(cluster, placing, sums, shard, target)) for target in range(len(cluster.rooms))]
        found += [(("copy", shard, source, target), result) for source in machines
                  for target, result in grown if result is not None]
    for shard, machines in enumerate(placing):
        shrunk = [(machine, _dropped(cluster, placing, shard, machine)) for machine in machines]
        found += [(("drop", shard, machine), result) for machine, result in shrunk if result is not None]
    return found


def placing_after(cluster, placing, step):
    """Return the placing after a step, None if it is not a step that is possible."""
    if not has_form(cluster, step):
        return None
    shard, machine = step[1], step[-1]
    if step[0] == "drop":
        return _dropped(cluster, placing, shard, machine)
    if step[2] not in placing[shard]:
        return None
    return _copied(cluster, placing, held(cluster, placing), shard, machine)


def step_price(cluster, step):
    """Return the price of a step, which must be possible somewhere."""
    if step[0] == "drop":
        return 1
    size = cluster.sizes[step[1]]
    if cluster.zones[step[2]] == cluster.zones[step[3]]:
        return size
    return size * cluster.far


def way_price(cluster, way):
    """Return the sum of the prices of steps, each of which must be possible somewhere."""
    return sum([step_price(cluster, step) for step in way])


def has_form(cluster, value):
    """Say whether a value is written as a step of the shards and machines of a cluster."""
    if not isinstance(value, tuple) or not 3 <= len(value) <= 4:
        return False
    # Not only compared: an object of another kind could call itself equal to the word.
    if not isinstance(value[0], str) or value[0] != ("copy" if len(value) == 4 else "drop"):
        return False
    if not is_number(value[1], 0, len(cluster.sizes) - 1):
        return False
    return all([is_number(machine, 0, len(cluster.rooms) - 1) for machine in value[2:]])


def subsets(count):
    """Return all ascending tuples of indices below a count, in the order of tuples."""
    rows = [()]
    for index in range(count):
        rows = rows + [row + (index,) for row in rows]
    return sorted(rows)


def _copied(cluster, placing, sums, shard, target):
    """Return the placing with one more copy, None if it is none; the sums are what the machines hold."""
    machines = placing[shard]
    if target in machines or sums[target] + cluster.sizes[shard] > cluster.rooms[target]:
        return None
    return _replaced(cluster, placing, shard, tuple(sorted([*machines, target])))


def _dropped(cluster, placing, shard, machine):
    """Return the placing without a copy, None if there is no such copy or no placing is left."""
    machines = placing[shard]
    if machine not in machines:
        return None
    return _replaced(cluster, placing, shard, tuple([other for other in machines if other != machine]))


def _replaced(cluster, placing, shard, machines):
    """Return the placing with other machines for a shard, None if it may not have its copies on these."""
    if not may_lie(cluster, machines):
        return None
    return placing[:shard] + (machines,) + placing[shard + 1:]


def _choices(cluster):
    """Return the ascending tuples of machines that may have the copies of one shard, in order."""
    return [row for row in subsets(len(cluster.rooms)) if may_lie(cluster, row)]


def _collect(cluster, choices, start, free, found):
    """Add to the found ones the placings that begin as given, in order, if the free room allows."""
    if len(start) == len(cluster.sizes):
        if len(found) == MOST_PLACINGS:
            raise TooLarge("more than 2000 placings")
        found.append(start)
        return
    size = cluster.sizes[len(start)]
    for machines in choices:
        rest = [room - size if machine in machines else room for machine, room in enumerate(free)]
        if min(rest) >= 0:
            _collect(cluster, choices, start + (machines,), rest, found)
