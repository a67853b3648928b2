"""Regions: the placings of a cluster, divided by whether there is a way between them."""

from shardmove.placings import check_placing, placings
from shardmove.searches import region_of


class Regions:
    """The placings of all regions."""

    def __init__(self, groups):
        self.groups = [list(group) for group in groups]

    def __eq__(self, other):
        return isinstance(other, Regions) and self.groups == other.groups

    def shows(self, cluster):
        """Say whether these are the regions of a cluster, in order."""
        return self.groups == _divided(cluster)


def regions(cluster):
    """Return the Regions of a cluster."""
    return Regions(_divided(cluster))


def region(cluster, placing):
    """Return the placings of the region of a placing, in order."""
    check_placing(cluster, placing)
    # Only to refuse what is too large: the limit is one of all placings, not of the region.
    placings(cluster)
    return region_of(cluster, placing)


def _divided(cluster):
    """Return the lists of the placings of all regions, in order."""
    groups = []
    seen = {}
    for placing in placings(cluster):
        if placing not in seen:
            group = region_of(cluster, placing)
            groups.append(group)
            for member in group:
                seen[member] = True
    return groups
