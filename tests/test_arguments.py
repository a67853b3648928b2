"""What [1] and the interface say of the arguments of all functions of placings, and of the order of errors."""

import inspect
import unittest

from shardmove import placings as module
from shardmove.clusters import Cluster
from shardmove.errors import BadCluster, BadPlacing
from tests.helpers import WIDEST, Case, LooksLikeACluster, Own, make, odd_values, spoiled

CLUSTER = ((3, 3, 3), (2, 1), (0, 1, 1), 2, 1, False)
PLACING = ((0,), (0, 1))
STEP = ("copy", 0, 0, 2)
PARAMETERS = {
    "is_placing": {"cluster": None, "value": PLACING},
    "placings": {"cluster": None},
    "loads": {"cluster": None, "placing": PLACING},
    "steps": {"cluster": None, "placing": PLACING},
    "after": {"cluster": None, "placing": PLACING, "step": STEP},
    "price": {"cluster": None, "placing": PLACING, "step": STEP},
    "walk": {"cluster": None, "placing": PLACING, "way": [STEP]},
    "cost": {"cluster": None, "placing": PLACING, "way": [STEP]},
}
RESULTS = {"is_placing": True, "loads": [3, 1, 0], "after": ((0, 2), (0, 1)), "price": 4,
           "walk": [PLACING, ((0, 2), (0, 1))], "cost": 4}


class ArgumentsTest(Case):

    def test_interface(self):
        for name, parameters in PARAMETERS.items():
            function = getattr(module, name)
            self.assertTrue(inspect.isfunction(function))
            self.assertEqual((function.__module__, function.__name__), ("shardmove.placings", name))
            self.assertEqual(list(inspect.signature(function).parameters), list(parameters))

    def test_by_position_and_by_keyword(self):
        for name, parameters in PARAMETERS.items():
            function = getattr(module, name)
            arguments = {**parameters, "cluster": make(CLUSTER)}
            self.assertEqual(function(*arguments.values()), function(**arguments))
            if name in RESULTS:
                self.assertEqual(function(**arguments), RESULTS[name])
                self.assertIs(function(**arguments).__class__, RESULTS[name].__class__)

    def test_what_is_no_cluster(self):
        for name, parameters in PARAMETERS.items():
            for value in [*odd_values(), Cluster, CLUSTER, PLACING, LooksLikeACluster(), vars(make(CLUSTER))]:
                error = self.refused(BadCluster, getattr(module, name), **{**parameters, "cluster": value})
                self.assertIsNone(error.part)

    def test_what_is_no_placing(self):
        cluster = make(CLUSTER)
        values = [((0,), (0, 3)), ((0,), (1, 0)), ((0, 1, 2), (3,)), ((0,),), ((0,), (0,), (0,)), (0, 0),
                  [(0,), (0, 1)], ((0,), [0, 1]), ((0,), (0, True)), ((False,), (0, 1))]
        for name, parameters in PARAMETERS.items():
            if "placing" in parameters:
                for value in spoiled(PLACING) + values:
                    arguments = {**parameters, "cluster": cluster, "placing": value}
                    self.refused(BadPlacing, getattr(module, name), **arguments)

    def test_placings_of_other_clusters(self):
        others = [Cluster((3, 2, 3), (2, 1), alive=2), Cluster((2, 3, 3), (2, 1)), Cluster((3, 3), (2, 2)),
                  Cluster((3, 3, 3), (2, 1, 1)), Cluster((3, 3, 3), (1,)), Cluster((3, 3, 3), (2, 1), apart=True),
                  Cluster((3, 3, 3), (3, 3))]
        for name, parameters in PARAMETERS.items():
            if "placing" in parameters:
                for cluster in others:
                    self.refused(BadPlacing, getattr(module, name), **{**parameters, "cluster": cluster})

    def test_the_error_that_is_documented_first(self):
        cluster = make(CLUSTER)
        for name, parameters in PARAMETERS.items():
            function = getattr(module, name)
            for bad in (None, Own(), True, 10 ** 30, [], "no"):
                wrong = dict.fromkeys(parameters, bad)
                self.assertIsNone(self.refused(BadCluster, function, **wrong).part)
                if "placing" in parameters:
                    self.refused(BadPlacing, function, **{**wrong, "cluster": cluster})
                    self.assertIsNone(self.refused(BadCluster, function, **{**wrong, "placing": PLACING}).part)
                    self.assertIsNone(self.refused(BadCluster, function, **{**parameters, "placing": bad}).part)

    def test_only_placings_has_a_limit(self):
        cluster = make(WIDEST)
        placing = ((0,), (1,), (2,), (3,))
        step = ("copy", 0, 0, 1)
        result = ((0, 1), (1,), (2,), (3,))
        self.assertIs(module.is_placing(cluster, placing), True)
        self.assertEqual(module.loads(cluster, placing), [1, 1, 1, 1])
        self.assertEqual(len(module.steps(cluster, placing)), 12)
        self.assertEqual(module.after(cluster, placing, step), result)
        self.assertEqual(module.price(cluster, placing, step), 1)
        self.assertEqual(module.walk(cluster, placing, [step]), [placing, result])
        self.assertEqual(module.cost(cluster, placing, [step]), 1)

    def test_the_cluster_stays_as_it_is(self):
        cluster = make(CLUSTER)
        for name, parameters in PARAMETERS.items():
            getattr(module, name)(**{**parameters, "cluster": cluster})
            self.assertEqual(cluster, make(CLUSTER))
            self.assertEqual((cluster.rooms, cluster.sizes, cluster.zones), CLUSTER[:3])

    def test_clusters_do_not_mix(self):
        near, far = (Cluster((3, 3), (2,), zones=(0, 1), far=price) for price in (1, 3))
        for _ in range(2):
            self.assertEqual(module.price(near, ((0,),), ("copy", 0, 0, 1)), 2)
            self.assertEqual(module.price(far, ((0,),), ("copy", 0, 0, 1)), 6)
            self.assertEqual(module.cost(near, ((0,),), [("copy", 0, 0, 1)]), 2)
            self.assertEqual(module.cost(far, ((0,),), [("copy", 0, 0, 1)]), 6)


if __name__ == "__main__":
    unittest.main()
