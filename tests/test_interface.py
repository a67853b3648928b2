"""What the document lists in its interface: each name in its file, and each method in its class."""

import ast
import importlib
import inspect
import pathlib
import unittest

from shardmove.errors import ShardError

FOLDER = pathlib.Path(__file__).resolve().parent.parent / "shardmove"
PAIR = ["cluster", "one", "other"]
WALK = ["cluster", "placing", "way"]
FUNCTIONS = {
    "placings": {"is_placing": ["cluster", "value"], "placings": ["cluster"], "loads": ["cluster", "placing"],
                 "steps": ["cluster", "placing"], "after": ["cluster", "placing", "step"],
                 "price": ["cluster", "placing", "step"], "walk": WALK, "cost": WALK},
    "plans": {"plan": PAIR, "least_cost": PAIR, "can_move": PAIR, "musts": PAIR},
    "movers": {"movers": PAIR, "least_movers": PAIR, "cost_with": [*PAIR, "some"]},
    "regions": {"regions": ["cluster"], "region": ["cluster", "placing"]},
    "rounds": {"after_round": ["cluster", "placing", "traffic", "turn"], "round_between": [*PAIR, "traffic"],
               "schedule": [*PAIR, "traffic"], "fewest_rounds": [*PAIR, "traffic"]},
    "spares": {"spare": [*PAIR, "offers"], "least_spare": [*PAIR, "zone"]},
    "stops": {"left": WALK, "forward": WALK, "back": WALK, "turning": WALK, "detours": WALK},
    "texts": {"cluster_text": ["cluster"], "placing_text": ["cluster", "placing"], "way_text": WALK,
              "read_cluster": ["text"], "read_placing": ["cluster", "text"], "read_way": ["cluster", "placing", "text"],
              "rank": ["cluster", "placing"], "unrank": ["cluster", "number"]},
}
# For each class what it is made with, its methods and its properties.
CLASSES = {
    "clusters": {"Cluster": (["rooms", "sizes", "zones", "far", "alive", "apart"], {"__eq__": ["other"]},
                             ["rooms", "sizes", "zones", "far", "alive", "apart"])},
    "plans": {"Plan": (["way", "floors"], {"__eq__": ["other"], "shows": PAIR}, []),
              "Knot": (["placings"], {"__eq__": ["other"], "shows": PAIR}, [])},
    "movers": {"Movers": (["ways", "knots"], {"__eq__": ["other"], "shows": PAIR}, [])},
    "regions": {"Regions": (["groups"], {"__eq__": ["other"], "shows": ["cluster"]}, [])},
    "rounds": {"Schedule": (["rounds", "floors"], {"__eq__": ["other"], "shows": [*PAIR, "traffic"]}, []),
               "Jam": (["placings"], {"__eq__": ["other"], "shows": [*PAIR, "traffic"]}, [])},
    "spares": {"Spare": (["index", "total", "answers"], {"__eq__": ["other"], "shows": [*PAIR, "offers"]}, [])},
    "sessions": {"Session": (["cluster", "placing", "goal"],
                             {"__len__": [], "spent": [], "rest": [], "step": ["step"], "undo": [], "branch": [],
                              "trial": [], "tried": ["steps"]},
                             ["placing", "goal", "journal"])},
}
ERRORS = {"BadCluster": ["part"], "BadPlacing": [], "BadStep": [], "BadSteps": ["index"], "BadMovers": [], "NoWay": [],
          "TooLarge": [], "BadTraffic": [], "BadRound": [], "BadOffers": [], "BadRank": [], "NothingDone": [],
          "BadText": ["row"]}


def defined(name, kind):
    """Return the nodes of a kind at the top of a file, by their names."""
    tree = ast.parse((FOLDER / (name + ".py")).read_text())
    return {node.name: node for node in tree.body if isinstance(node, kind)}


def parameters(function):
    """Return the names of the parameters, without the object of a method."""
    return [name for name in inspect.signature(function).parameters if name != "self"]


class InterfaceTest(unittest.TestCase):

    def test_functions(self):
        for name, functions in FUNCTIONS.items():
            nodes, module = defined(name, ast.FunctionDef), importlib.import_module("shardmove." + name)
            for each, names in functions.items():
                self.assertIn(each, nodes)
                self.assertEqual(parameters(getattr(module, each)), names, each)

    def test_classes(self):
        for name, classes in CLASSES.items():
            nodes, module = defined(name, ast.ClassDef), importlib.import_module("shardmove." + name)
            for each, (names, methods, properties) in classes.items():
                kind = getattr(module, each)
                self.assertEqual(parameters(kind), names)
                body = {node.name for node in nodes[each].body if isinstance(node, ast.FunctionDef)}
                self.assertLessEqual({"__init__", *methods, *properties}, body)
                for method, rest in methods.items():
                    self.assertEqual(parameters(vars(kind)[method]), rest, (each, method))
                for each_property in properties:
                    self.assertIsInstance(vars(kind)[each_property], property)

    def test_errors(self):
        nodes, module = defined("errors", ast.ClassDef), importlib.import_module("shardmove.errors")
        self.assertEqual(set(nodes), {"ShardError", *ERRORS})
        self.assertEqual(ShardError.__bases__, (ValueError,))
        for name, attributes in ERRORS.items():
            kind = getattr(module, name)
            self.assertEqual(kind.__bases__, (ShardError,))
            for attribute in attributes:
                self.assertTrue(hasattr(kind(), attribute), (name, attribute))


if __name__ == "__main__":
    unittest.main()
