"""The errors of Shardmove."""


class ShardError(ValueError):
    """Every error that the document names is one of these."""


class BadCluster(ShardError):
    """An argument is no cluster, or `part` says what is wrong with a new one."""

    def __init__(self, part=None):
        super().__init__("no cluster can be made of this")
        self.part = part


class BadPlacing(ShardError):
    """An argument is not a placing of the cluster."""


class BadStep(ShardError):
    """An argument is not a step that is possible."""


class BadSteps(ShardError):
    """Of several steps, the one at `index` is wrong; None if there are no steps at all."""

    def __init__(self, index=None):
        super().__init__("these are not steps that are possible one after the other")
        self.index = index


class BadMovers(ShardError):
    """An argument is not a set of shards."""


class NoWay(ShardError):
    """There is no way from the one placing to the other."""


class TooLarge(ShardError):
    """There are more placings than are looked at."""


class BadTraffic(ShardError):
    """An argument is not a bound of traffic."""


class BadRound(ShardError):
    """An argument is not a round that is possible."""


class BadOffers(ShardError):
    """An argument does not offer spare machines that the cluster can have."""


class BadRank(ShardError):
    """An argument is not the index of a placing."""


class NothingDone(ShardError):
    """There is no step that can be undone."""


class BadText(ShardError):
    """A text cannot be read; `row` is the index of the line that is wrong."""

    def __init__(self, row=0):
        super().__init__("the text is not written as it must be")
        self.row = row
