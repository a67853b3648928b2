"""The examples of the document, as they stand, and those of README.md."""

import doctest
import pathlib
import unittest

EXAMPLES = {
    "shardmove/placings.py, 1": r"""
>>> from shardmove.clusters import Cluster
>>> from shardmove.placings import steps
>>> cluster = Cluster((3, 2, 2), (2, 1), zones=(0, 0, 1), far=3)
>>> placing = ((0,), (0,))
>>> steps(cluster, placing)
[('copy', 0, 0, 1), ('copy', 0, 0, 2), ('copy', 1, 0, 1), ('copy', 1, 0, 2)]
""",
    "shardmove/placings.py, 2": r"""
>>> from shardmove.clusters import Cluster
>>> from shardmove.placings import after, loads, price
>>> cluster = Cluster((3, 2, 2), (2, 1), zones=(0, 0, 1), far=3)
>>> placing = ((0,), (0,))
>>> [after(cluster, placing, ('copy', 0, 0, 2)), price(cluster, placing, ('copy', 0, 0, 2)), loads(cluster, ((0, 2), (0,)))]
[((0, 2), (0,)), 6, [3, 0, 2]]
""",
    "shardmove/placings.py, 3": r"""
>>> from shardmove.clusters import Cluster
>>> from shardmove.placings import cost, placings, steps
>>> cluster = Cluster((3, 2, 2), (2, 1), zones=(0, 0, 1), far=3)
>>> placing = ((0,), (0,))
>>> [cost(cluster, placing, [('copy', 0, 0, 2), ('drop', 0, 0), ('copy', 1, 0, 1)]), len(placings(cluster)), steps(Cluster((1, 1), (1, 1)), ((0,), (1,)))]
[8, 21, []]
""",
    "shardmove/plans.py, 1": r"""
>>> from shardmove.clusters import Cluster
>>> from shardmove.plans import Plan, least_cost, plan
>>> cluster = Cluster((2, 2, 1), (2, 1), zones=(0, 1, 1), far=2)
>>> one, other = ((0,), (1,)), ((1,), (0,))
>>> found = plan(cluster, one, other)
>>> way = (('copy', 1, 1, 2), ('drop', 1, 1), ('copy', 0, 0, 1), ('drop', 0, 0), ('copy', 1, 2, 0), ('drop', 1, 2))
>>> [least_cost(cluster, one, other), found.shows(cluster, one, other), Plan(way, found.floors).shows(cluster, one, other)]
[10, True, True]
""",
    "shardmove/plans.py, 2": r"""
>>> from shardmove.clusters import Cluster
>>> from shardmove.plans import Plan, musts
>>> cluster = Cluster((2, 2, 1), (2, 1), zones=(0, 1, 1), far=2)
>>> one, other = ((0,), (1,)), ((1,), (0,))
>>> way = (('copy', 1, 1, 2), ('drop', 1, 1), ('copy', 0, 0, 1), ('drop', 0, 0), ('copy', 1, 2, 0), ('drop', 1, 2))
>>> [musts(cluster, one, other)[:2], Plan(way, {one: 10}).shows(cluster, one, other)]
[[('copy', 0, 0, 1), ('copy', 1, 1, 2)], False]
""",
    "shardmove/plans.py, 3": r"""
>>> from shardmove.clusters import Cluster
>>> from shardmove.plans import Knot, least_cost, plan
>>> one, other = ((0,), (1,)), ((1,), (0,))
>>> way = (('copy', 1, 1, 2), ('drop', 1, 1), ('copy', 0, 0, 1), ('drop', 0, 0), ('copy', 1, 2, 0), ('drop', 1, 2))
>>> tight = Cluster((2, 2), (2, 1))
>>> [least_cost(tight, one, other), Knot([one]).shows(tight, one, other), plan(tight, one, one).way]
[None, True, ()]
""",
    "shardmove/movers.py, 1": r"""
>>> from shardmove.clusters import Cluster
>>> from shardmove.movers import cost_with, least_movers, movers
>>> cluster = Cluster((3, 3, 1), (2, 2, 1))
>>> one, other = ((0,), (1,), (0,)), ((1,), (0,), (0,))
>>> found = movers(cluster, one, other)
>>> [least_movers(cluster, one, other), list(found.knots), found.shows(cluster, one, other), cost_with(cluster, one, other, (0, 1))]
[[], [(0, 1, 2)], True, None]
""",
    "shardmove/movers.py, 2": r"""
>>> from shardmove.clusters import Cluster
>>> from shardmove.movers import cost_with, least_movers
>>> one, other = ((0,), (1,), (0,)), ((1,), (0,), (0,))
>>> wide = Cluster((3, 3, 2), (2, 2, 1))
>>> [least_movers(wide, one, other), cost_with(wide, one, other, (0, 1)), cost_with(wide, one, one, ())]
[[(0, 1)], 9, 0]
""",
    "shardmove/regions.py, 1": r"""
>>> from shardmove.clusters import Cluster
>>> from shardmove.regions import region, regions
>>> cluster = Cluster((1, 1, 1), (1, 1))
>>> [len(regions(cluster).groups), len(region(cluster, ((0,), (1,))))]
[1, 12]
""",
    "shardmove/regions.py, 2": r"""
>>> from shardmove.clusters import Cluster
>>> from shardmove.regions import regions
>>> regions(Cluster((1, 1), (1, 1))).groups
[[((0,), (1,))], [((1,), (0,))]]
""",
    "shardmove/rounds.py, 1": r"""
>>> from shardmove.clusters import Cluster
>>> from shardmove.rounds import after_round, fewest_rounds, round_between, schedule
>>> cluster = Cluster((4, 3, 3), (2, 1, 1))
>>> one, other = ((0,), (0,), (1,)), ((1,), (1,), (0,))
>>> found = [fewest_rounds(cluster, one, other, 1), fewest_rounds(cluster, one, other, 2), fewest_rounds(cluster, one, other, 3), fewest_rounds(cluster, one, other, 6)]
>>> turn = ((('copy', 1, 0, 2), ('copy', 2, 1, 0)), (('drop', 1, 0),))
>>> [found, after_round(cluster, one, 2, turn), round_between(cluster, one, other, 3), schedule(cluster, one, other, 2).shows(cluster, one, other, 2)]
[[None, 2, 2, 2], ((0,), (2,), (0, 1)), None, True]
""",
    "shardmove/spares.py": r"""
>>> from shardmove.clusters import Cluster
>>> from shardmove.plans import Knot
>>> from shardmove.spares import Spare, least_spare, spare
>>> cluster = Cluster((2, 2), (2, 1), far=3)
>>> one, other = ((0,), (1,)), ((1,), (0,))
>>> found = spare(cluster, one, other, [(1, 0, 4), (1, 1, 1), (6, 0, 3)])
>>> [found.index, found.total, isinstance(found.answers[0], Knot), found.shows(cluster, one, other, [(1, 0, 4), (1, 1, 1), (6, 0, 3)])]
[3, 10, True, True]
""",
    "shardmove/stops.py": r"""
>>> from shardmove.clusters import Cluster
>>> from shardmove.stops import back, detours, forward, left, turning
>>> cluster = Cluster((3, 3), (2, 1))
>>> placing, way = ((0,), (1,)), [('copy', 1, 1, 0), ('copy', 0, 0, 1), ('drop', 1, 0), ('drop', 0, 0)]
>>> [len(left(cluster, placing, way)), list(forward(cluster, placing, way).values()), list(back(cluster, placing, way).values()), turning(cluster, placing, way), detours(cluster, placing, way)]
[5, [3, 4, 2, 1, 0], [0, 1, 2, 1, 3], 4, [0]]
""",
    "shardmove/texts.py": r"""
>>> from shardmove.clusters import Cluster
>>> from shardmove.sessions import Session
>>> from shardmove.texts import cluster_text, placing_text, rank, read_placing, read_way, unrank
>>> cluster = Cluster((3, 2), (2, 1), zones=(0, 1), far=2)
>>> session = Session(cluster, ((0,), (0,)), ((1,), (0,)))
>>> found = [session.rest(), session.step(('copy', 0, 0, 1)), session.tried([('drop', 0, 0), ('copy', 1, 0, 1)][:1]), session.spent(), session.journal]
>>> texts = [cluster_text(cluster), placing_text(cluster, session.placing), read_placing(cluster, '1 0'), read_way(cluster, ((0,), (0,)), 'copy 0 0 1\ndrop 0 0\n')]
>>> [found, texts, rank(cluster, ((1,), (0,))), unrank(cluster, 0)]
[[5, 1, [0], 4, [(('copy', 0, 0, 1), 1)]], ['rooms 3 2\nsizes 2 1\nzones 0 1\nfar 2\nalive 1\napart no\n', '0,1 0', ((1,), (0,)), (('copy', 0, 0, 1), ('drop', 0, 0))], 4, ((0,), (0,))]
""",
}


class ExamplesTest(unittest.TestCase):

    def check(self, name, text):
        test = doctest.DocTestParser().get_doctest(text, {}, name, None, 0)
        self.assertGreater(len(test.examples), 2)
        report = []
        result = doctest.DocTestRunner(verbose=False).run(test, out=report.append)
        self.assertEqual((result.failed, result.attempted), (0, len(test.examples)), "".join(report))

    def test_examples(self):
        for name, text in EXAMPLES.items():
            with self.subTest(name):
                self.check(name, text)

    def test_readme(self):
        self.check("README.md", (pathlib.Path(__file__).resolve().parent.parent / "README.md").read_text())


if __name__ == "__main__":
    unittest.main()
