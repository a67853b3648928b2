"""Clusters: machines with rooms and zones, and shards with sizes."""

from shardmove.checks import are_numbers, is_number
from shardmove.errors import BadCluster


class Cluster:
    """Machines and shards, and what is asked of the copies; it never changes."""

    def __init__(self, rooms, sizes, *, zones=None, far=1, alive=1, apart=False):
        if not are_numbers(rooms, 1, 6) or not 2 <= len(rooms) <= 4:
            raise BadCluster("ROOMS")
        if not are_numbers(sizes, 1, 3) or not 1 <= len(sizes) <= 4:
            raise BadCluster("SIZES")
        if zones is None:
            zones = (0,) * len(rooms)
        if not are_numbers(zones, 0, 3) or len(zones) != len(rooms):
            raise BadCluster("ZONES")
        if not is_number(far, 1, 3):
            raise BadCluster("FAR")
        if not is_number(alive, 1, 2):
            raise BadCluster("ALIVE")
        if not isinstance(apart, bool):
            raise BadCluster("APART")
        self._rooms = rooms
        self._sizes = sizes
        self._zones = zones
        self._far = far
        self._alive = alive
        self._apart = apart

    def __eq__(self, other):
        return (isinstance(other, Cluster) and self.rooms == other.rooms and self.sizes == other.sizes
                and self.zones == other.zones and self.far == other.far
                and self.alive == other.alive and self.apart == other.apart)

    @property
    def rooms(self):
        """The room of each machine."""
        return self._rooms

    @property
    def sizes(self):
        """The size of each shard."""
        return self._sizes

    @property
    def zones(self):
        """The zone of each machine."""
        return self._zones

    @property
    def far(self):
        """What multiplies the price of a copy between two zones."""
        return self._far

    @property
    def alive(self):
        """The number of copies that each shard always has at least."""
        return self._alive

    @property
    def apart(self):
        """Whether the copies of a shard are always in different zones."""
        return self._apart


def check_cluster(value):
    """Refuse what is no cluster."""
    if not isinstance(value, Cluster):
        raise BadCluster(None)
