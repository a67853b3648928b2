"""The classes of errors."""

import inspect
import unittest

from shardmove import errors
from tests.helpers import Case

NAMES = ["BadCluster", "BadPlacing", "BadStep", "BadSteps", "BadMovers", "NoWay", "TooLarge", "BadTraffic",
         "BadRound", "BadOffers", "BadRank", "NothingDone", "BadText"]


class ErrorsTest(Case):

    def test_shard_error_is_a_value_error(self):
        self.assertEqual(errors.ShardError.__bases__, (ValueError,))
        self.assertEqual(errors.ShardError.__module__, "shardmove.errors")

    def test_the_others_are_direct_subclasses(self):
        for name in NAMES:
            with self.subTest(name):
                kind = getattr(errors, name)
                self.assertEqual(kind.__name__, name)
                self.assertEqual(kind.__bases__, (errors.ShardError,))
                self.assertEqual(kind.__module__, "shardmove.errors")

    def test_attributes_are_set_when_an_object_is_created(self):
        for name, attribute in (("BadCluster", "part"), ("BadSteps", "index"), ("BadText", "row")):
            kind = getattr(errors, name)
            # The parameters are free; so each is given the same number.
            error = kind(*[4] * len(inspect.signature(kind).parameters))
            self.assertTrue(hasattr(error, attribute), name)

    def test_no_two_are_the_same(self):
        self.assertEqual(len({getattr(errors, name) for name in NAMES}), len(NAMES))


if __name__ == "__main__":
    unittest.main()
