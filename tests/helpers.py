"""What several tests use: odd values, clusters to look at, and a search that shares no code with the program."""

import itertools
import unittest

from shardmove.clusters import Cluster


class Own:
    """An object of a class that the program does not know."""


class Same:
    """An object that calls itself equal to everything, and cannot be a key."""

    __hash__ = None

    def __eq__(self, other):
        return True


class Broken:
    """An object with which hardly anything can be done."""

    def _fail(self, *_):
        raise RuntimeError("this object was asked for something")

    __eq__ = __ne__ = __lt__ = __le__ = __gt__ = __ge__ = __hash__ = _fail
    __len__ = __iter__ = __bool__ = __getitem__ = __contains__ = __index__ = __int__ = _fail


class LooksLikeACluster:
    """An object with the properties of a cluster that is none."""

    rooms = (3, 3)
    sizes = (1, 1)
    zones = (0, 0)
    far = 1
    alive = 1
    apart = False


def odd_values():
    """Return values of many kinds, none of which may stand anywhere in a cluster, a placing or a step."""
    return [
        None, True, False, -1, 99, 10 ** 30, -10 ** 30, 10 ** 5000, 1j,
        "", "0", "copy 0 0 1", "drops", b"", b"0", b"copy",
        [], [0], [0, 1], [[0], [1]], {}, {0: 1}, {"copy": 0}, set(), {0}, {0, 1}, frozenset({0}),
        (), (None,), ((),), ((0,),), ([0],), ("0",), (True,), (-1,), (99,),
        range(2), iter([0, 1]), len, odd_values, lambda: 0, int, tuple, Own, ValueError("no"),
        Own(), Same(), Broken(), LooksLikeACluster(),
    ]


def spoiled(value):
    """Return copies of a nested tuple with an odd value at each of its places, itself and those within included."""
    found = odd_values()
    if isinstance(value, tuple):
        for at, item in enumerate(value):
            found += [value[:at] + (odd,) + value[at + 1:] for odd in spoiled(item)]
    return found


def make(spec):
    """Return the cluster of a tuple of the six parameters."""
    rooms, sizes, zones, far, alive, apart = spec
    return Cluster(rooms, sizes, zones=zones, far=far, alive=alive, apart=apart)


# Rooms, sizes, zones, far, alive, apart.
SPECS = [
    ((3, 2, 2), (2, 1), (0, 0, 1), 3, 1, False),
    ((3, 2, 2), (2, 1), (0, 0, 1), 2, 1, True),
    ((2, 2, 2), (1, 1), (0, 1, 2), 2, 2, True),
    ((3, 3, 3), (1, 2), (0, 1, 1), 3, 2, True),
    ((3, 3, 3), (1, 2), (0, 0, 0), 1, 2, False),
    ((3, 3, 4), (1, 2, 1), (3, 1, 3), 2, 2, False),
    ((1, 1), (1, 1), (0, 0), 1, 1, False),
    ((2, 3), (1, 1, 1), (0, 1), 2, 1, False),
    ((6, 6), (3, 3), (2, 2), 3, 1, True),
    ((4, 3, 2, 1), (2, 1), (0, 1, 2, 3), 3, 1, True),
    ((2, 2, 2, 2), (1, 1), (0, 0, 1, 1), 2, 2, True),
    ((2, 3, 1, 3), (1, 3), (0, 2, 0, 2), 3, 1, True),
    ((2, 2, 1, 3), (1, 1, 2), (0, 1, 1, 2), 2, 1, True),
    ((1, 1, 1, 2), (1, 1, 1, 1), (0, 0, 3, 3), 1, 1, False),
    ((3, 1, 6), (3,), (0, 1, 2), 3, 1, False),
]

# Clusters without any placing: no room at all, one copy too many, two copies in the only zone.
EMPTY_SPECS = [
    ((1, 2), (3,), (0, 1), 1, 1, False),
    ((2, 1), (1, 1), (0, 1), 1, 2, False),
    ((6, 6, 6), (1,), (2, 2, 2), 1, 2, True),
]

# Exactly 2000, and exactly 2001 placings.
JUST_INSIDE = ((1, 5, 4, 6), (1, 1, 2, 3), (0, 0, 1, 2), 1, 1, True)
JUST_OUTSIDE = ((3, 5, 3, 6), (1, 1, 1, 3), (0, 0, 1, 1), 1, 1, True)
WIDEST = ((6, 6, 6, 6), (1, 1, 1, 1), (0, 0, 0, 0), 1, 1, False)


def allowed(spec, value):
    """Say by the words of the document whether a tuple of tuples of machines is a placing."""
    rooms, sizes, zones, _, alive, apart = spec
    if any(list(machines) != sorted(set(machines)) for machines in value):
        return False
    for machine, room in enumerate(rooms):
        if sum(size for size, machines in zip(sizes, value) if machine in machines) > room:
            return False
    for machines in value:
        if len(machines) < alive:
            return False
        if apart and any(zones[a] == zones[b] for a, b in itertools.combinations(machines, 2)):
            return False
    return True


def search_placings(spec):
    """Return all placings in order, found among all tuples there are."""
    machines = range(len(spec[0]))
    rows = [row for many in range(len(machines) + 1) for row in itertools.combinations(machines, many)]
    return sorted(value for value in itertools.product(rows, repeat=len(spec[1])) if allowed(spec, value))


def candidates(spec):
    """Return all steps that can be written for a cluster, possible or not, in order."""
    shards, machines = range(len(spec[1])), range(len(spec[0]))
    copies = [("copy", *rest) for rest in itertools.product(shards, machines, machines)]
    return copies + [("drop", *rest) for rest in itertools.product(shards, machines)]


def search_after(spec, placing, step):
    """Return the placing after a step that is written correctly, None if it is not possible."""
    sets = [set(machines) for machines in placing]
    if step[0] == "copy":
        _, shard, source, target = step
        if source not in sets[shard] or target in sets[shard]:
            return None
        sets[shard].add(target)
    else:
        _, shard, machine = step
        if machine not in sets[shard]:
            return None
        sets[shard].remove(machine)
    result = tuple(tuple(sorted(each)) for each in sets)
    return result if allowed(spec, result) else None


def search_price(spec, step):
    """Return the price of a step."""
    if step[0] == "drop":
        return 1
    _, shard, source, target = step
    return spec[1][shard] * (spec[3] if spec[2][source] != spec[2][target] else 1)


class Case(unittest.TestCase):
    """A test case that can ask for one class of errors and no other."""

    def refused(self, kind, function, *args, **more):
        """Check that a call raises an error of just this class, and return it."""
        try:
            result = function(*args, **more)
        except Exception as error:
            self.assertIs(error.__class__, kind, f"{function.__name__}: {error!r}")
            return error
        return self.fail(f"{function.__name__} returned {result!r:.200} instead of raising {kind.__name__}")
