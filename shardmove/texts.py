"""Texts of clusters, placings and ways, and ranks: the indices of placings among all of a cluster."""

from shardmove.checks import is_number
from shardmove.clusters import Cluster, check_cluster
from shardmove.errors import BadCluster, BadRank, BadText
from shardmove.placings import check_placing, is_placing, placing_after, placings, walk

NAMES = ("rooms", "sizes", "zones", "far", "alive", "apart")
# What stands for the lines that have not been read yet: right values of any kind.
UNREAD = ((1, 1), (1,), None, 1, 1, False)
ANSWERS = {"apart yes": True, "apart no": False}
DIGITS = "0123456789"


def cluster_text(cluster):
    """Return the text of a cluster."""
    check_cluster(cluster)
    answer = "yes" if cluster.apart else "no"
    return _written([("rooms",) + cluster.rooms, ("sizes",) + cluster.sizes, ("zones",) + cluster.zones,
                     ("far", cluster.far), ("alive", cluster.alive), ("apart", answer)])


def placing_text(cluster, placing):
    """Return the text of a placing."""
    check_placing(cluster, placing)
    return " ".join([",".join([str(machine) for machine in machines]) for machines in placing])


def way_text(cluster, placing, way):
    """Return the text of a way."""
    walk(cluster, placing, way)
    return _written(way)


def read_cluster(text):
    """Return the cluster of a text."""
    lines, rest = _lines(text)
    values = ()
    for row, line in enumerate(lines):
        if row == len(NAMES):
            raise BadText(row)
        values = values + (_value(NAMES[row], line),)
        try:
            _cluster_of(values)
        except BadCluster:
            raise BadText(row) from None
    if len(lines) < len(NAMES) or rest:
        raise BadText(len(lines))
    return _cluster_of(values)


def read_placing(cluster, text):
    """Return the placing of a text."""
    check_cluster(cluster)
    if not isinstance(text, str):
        raise BadText(0)
    value = tuple([_numbers(word.split(",")) for word in text.split(" ")])
    if not is_placing(cluster, value):
        raise BadText(0)
    return value


def read_way(cluster, placing, text):
    """Return the way of a text."""
    check_placing(cluster, placing)
    lines, rest = _lines(text)
    found = []
    here = placing
    for row, line in enumerate(lines):
        words = line.split(" ")
        step = (words[0],) + _numbers(words[1:])
        here = placing_after(cluster, here, step)
        if here is None:
            raise BadText(row)
        found.append(step)
    if rest:
        raise BadText(len(lines))
    return tuple(found)


def rank(cluster, placing):
    """Return the index of a placing among all placings of a cluster, in order."""
    check_placing(cluster, placing)
    return placings(cluster).index(placing)


def unrank(cluster, number):
    """Return the placing with an index among all placings of a cluster, in order."""
    every = placings(cluster)
    if not is_number(number, 0, len(every) - 1):
        raise BadRank("not the index of a placing")
    return every[number]


def _written(rows):
    """Return a text with a line for each row of words and numbers."""
    return "".join([" ".join([str(word) for word in row]) + "\n" for row in rows])


def _lines(text):
    """Return the lines of a text, and the characters after the last of them; what is no string is refused."""
    if not isinstance(text, str):
        raise BadText(0)
    parts = text.split("\n")
    return parts[:-1], parts[-1]


def _numbers(words):
    """Return the numbers that words of one digit stand for; none at all if a word is not one digit."""
    if not all([len(word) == 1 and word in DIGITS for word in words]):
        return ()
    return tuple([int(word) for word in words])


def _value(name, line):
    """Return what a line with a name says of a cluster; an empty tuple, which no cluster has, if it is wrong."""
    words = line.split(" ")
    if words[0] != name:
        return ()
    if name == "apart":
        return ANSWERS.get(line, ())
    numbers = _numbers(words[1:])
    if name in ("far", "alive") and len(numbers) == 1:
        return numbers[0]
    return numbers


def _cluster_of(values):
    """Return a cluster of which the first lines have been read."""
    rooms, sizes, zones, far, alive, apart = values + UNREAD[len(values):]
    return Cluster(rooms, sizes, zones=zones, far=far, alive=alive, apart=apart)
