"""The examples of the document, as they stand."""

import doctest
import unittest

EXAMPLES = {
    "shardmove/placings.py, 1": r"""
>>> from shardmove.clusters import Cluster
>>> from shardmove.placings import steps
>>> cluster = Cluster((3, 2, 2), (2, 1), zones=(0, 0, 1), far=3)
>>> placing = ((0,), (0,))
>>> steps(cluster, placing)
[('copy', 0, 0, 1), ('copy', 0, 0, 2), ('copy', 1, 0, 1), ('copy', 1, 0, 2)]
""",
    "shardmove/placings.py, 2": r"""
>>> from shardmove.clusters import Cluster
>>> from shardmove.placings import after, loads, price
>>> cluster = Cluster((3, 2, 2), (2, 1), zones=(0, 0, 1), far=3)
>>> placing = ((0,), (0,))
>>> [after(cluster, placing, ('copy', 0, 0, 2)), price(cluster, placing, ('copy', 0, 0, 2)), loads(cluster, ((0, 2), (0,)))]
[((0, 2), (0,)), 6, [3, 0, 2]]
""",
    "shardmove/placings.py, 3": r"""
>>> from shardmove.clusters import Cluster
>>> from shardmove.placings import cost, placings, steps
>>> cluster = Cluster((3, 2, 2), (2, 1), zones=(0, 0, 1), far=3)
>>> placing = ((0,), (0,))
>>> [cost(cluster, placing, [('copy', 0, 0, 2), ('drop', 0, 0), ('copy', 1, 0, 1)]), len(placings(cluster)), steps(Cluster((1, 1), (1, 1)), ((0,), (1,)))]
[8, 21, []]
""",
}


class ExamplesTest(unittest.TestCase):

    def test_examples(self):
        for name, text in EXAMPLES.items():
            with self.subTest(name):
                test = doctest.DocTestParser().get_doctest(text, {}, name, None, 0)
                self.assertGreater(len(test.examples), 2)
                report = []
                result = doctest.DocTestRunner(verbose=False).run(test, out=report.append)
                self.assertEqual((result.failed, result.attempted), (0, len(test.examples)), "".join(report))


if __name__ == "__main__":
    unittest.main()
