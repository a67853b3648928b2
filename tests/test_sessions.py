"""[12] Sessions, and what [1] says of them."""

import inspect
import random
import unittest

from shardmove import sessions as module
from shardmove.clusters import Cluster
from shardmove.errors import BadCluster, BadPlacing, BadStep, BadSteps, NothingDone, ShardError, TooLarge
from shardmove.sessions import Session
from tests.graphs import ALL_SPECS, edges, least, least_costs, listed, spent_on
from tests.helpers import WIDEST, Case, LooksLikeACluster, candidates, make, odd_values, search_after, spoiled

ROW = ((3, 2), (2, 1), (0, 1), 2, 1, False)
PLACING, GOAL = ((0,), (0,)), ((1,), (0,))
COPY, DROP = ("copy", 0, 0, 1), ("drop", 0, 0)
SMALL = ("copy", 1, 0, 1)

# Copies are dear here: the goal is too large to see as soon as two copies are missing.
DEAR = ((6, 6, 6, 6), (1, 1, 1, 1), (0, 1, 2, 3), 3, 1, False)
EVERYWHERE = ((0, 1, 2, 3),) * 4


def session():
    """Return a session with nothing done."""
    return Session(make(ROW), PLACING, GOAL)


def seen(one):
    """Return all that can be seen of a session."""
    return one.placing, one.goal, one.journal, len(one), one.spent()


class Model:
    """A session by the words of the document: the placings, the journal, and how much of it cannot be undone."""

    def __init__(self, spec, placing, goal):
        self.spec, self.goal, self.passed, self.journal, self.kept = spec, goal, [placing], [], 0

    def left_at(self, placing):
        return least_costs(self.spec, placing).get(self.goal)

    def step(self, step):
        result = search_after(self.spec, self.passed[-1], step)
        if result is None:
            return "BadStep"
        self.passed.append(result)
        self.journal.append((step, self.left_at(result)))
        return self.journal[-1][1]

    def undo(self):
        if len(self.journal) == self.kept:
            return "NothingDone"
        self.passed.pop()
        return self.journal.pop()

    def branch(self):
        twin = Model(self.spec, None, self.goal)
        twin.passed, twin.journal = list(self.passed), list(self.journal)
        return twin

    def tried(self, steps):
        twin, found = self.branch(), []
        for index, step in enumerate(steps):
            result = twin.step(step)
            if result == "BadStep":
                return ("BadSteps", index)
            found.append(result)
        return found

    def seen(self):
        return (self.passed[-1], self.goal, list(self.journal), len(self.journal),
                spent_on(self.spec, [step for step, _ in self.journal]))


class Stop(Exception):
    """An error of a caller's own."""


class ModelTest(Case):
    """Long sequences of calls, compared with the model."""

    def check(self, one, model):
        self.assertEqual(seen(one), model.seen())
        self.assertEqual(one.rest(), model.left_at(model.passed[-1]))

    def call(self, function, *args):
        """Return what a call returns, or the name of its error."""
        try:
            return function(*args)
        except BadSteps as error:
            return (error.__class__.__name__, error.index)
        except ShardError as error:
            return error.__class__.__name__

    def some_step(self, rng, model):
        possible = [step for step, _, _ in edges(model.spec, model.passed[-1])]
        if possible and rng.random() < 0.8:
            return rng.choice(possible)
        return rng.choice(candidates(model.spec))

    def run_trial(self, rng, one, model, depth):
        before, kept = (list(model.passed), list(model.journal)), model.kept
        ending = rng.choice(["end", "error", "return"])
        model.kept = len(model.journal)

        def block():
            with one.trial() as inner:
                self.assertIs(inner, one)
                self.run_calls(rng, one, model, depth + 1)
                if ending == "error":
                    raise Stop
                if ending == "return":
                    return "returned"
            return "ended"

        if ending == "error":
            with self.assertRaises(Stop):
                block()
        else:
            self.assertEqual(block(), ending + "ed")
        (model.passed, model.journal), model.kept = before, kept

    def run_calls(self, rng, one, model, depth):
        for _ in range(rng.randint(3, 12)):
            kind = rng.choice(["step", "step", "step", "undo", "undo", "branch", "trial", "tried"])
            if kind == "step":
                step = self.some_step(rng, model)
                self.assertEqual(self.call(one.step, step), model.step(step))
            elif kind == "undo":
                self.assertEqual(self.call(one.undo), model.undo())
            elif kind == "branch" and depth < 3:
                twin, copy = one.branch(), model.branch()
                self.assertIs(twin.__class__, Session)
                self.run_calls(rng, twin, copy, depth + 1)
            elif kind == "trial" and depth < 3:
                self.run_trial(rng, one, model, depth)
            else:
                copy, steps = model.branch(), []
                for _ in range(rng.randint(0, 5)):
                    steps.append(self.some_step(rng, copy))
                    copy.step(steps[-1])
                self.assertEqual(self.call(one.tried, steps), model.tried(steps))
            self.check(one, model)

    def test_against_a_model(self):
        for seed, spec in enumerate([ROW, *ALL_SPECS] * 2):
            rng = random.Random(seed)
            placing, goal = rng.choice(listed(spec)), rng.choice(listed(spec))
            one, model = Session(make(spec), placing, goal), Model(spec, placing, goal)
            self.check(one, model)
            self.run_calls(rng, one, model, 0)
            while model.journal:
                self.assertEqual(one.undo(), model.undo())
                self.check(one, model)
            self.assertEqual(seen(one), (placing, goal, [], 0, 0))


class SessionTest(Case):

    def test_at_the_beginning(self):
        one = session()
        self.assertEqual(seen(one), (PLACING, GOAL, [], 0, 0))
        self.assertEqual(one.rest(), 5)
        self.refused(NothingDone, one.undo)
        self.assertEqual(seen(one), (PLACING, GOAL, [], 0, 0))

    def test_steps(self):
        one = session()
        self.assertEqual([one.step(COPY), one.placing, one.rest(), one.spent(), len(one)], [1, ((0, 1), (0,)), 1, 4, 1])
        self.assertEqual([one.step(DROP), one.placing, one.rest(), one.spent(), len(one)], [0, GOAL, 0, 5, 2])
        self.assertEqual(one.journal, [(COPY, 1), (DROP, 0)])
        self.assertEqual(one.step(("copy", 0, 1, 0)), 1)
        self.assertEqual((one.journal[2:], one.spent(), one.goal), ([(("copy", 0, 1, 0), 1)], 9, GOAL))

    def test_nothing_leads_to_the_goal(self):
        one = Session(Cluster((2, 2, 1), (2, 2, 1)), ((0,), (1,), (2,)), ((1,), (0,), (2,)))
        self.assertIsNone(one.rest())
        tight = Session(Cluster((3, 3), (2, 2, 1)), ((0,), (1,), (0,)), ((1,), (0,), (0,)))
        self.assertIsNone(tight.rest())
        self.assertIsNone(tight.step(("copy", 2, 0, 1)))
        self.assertIsNone(tight.step(("drop", 2, 0)))
        self.assertEqual(tight.journal, [(("copy", 2, 0, 1), None), (("drop", 2, 0), None)])
        self.assertEqual((tight.spent(), tight.rest()), (2, None))
        self.assertEqual(tight.tried([("copy", 2, 1, 0)]), [None])
        self.assertEqual(tight.undo(), (("drop", 2, 0), None))

    def test_wrong_steps_change_nothing(self):
        one = session()
        one.step(COPY)
        before = seen(one)
        wrong = spoiled(COPY) + [COPY, list(DROP), ("drop", 1, 0), ("drop", 0, 2), ("copy", 1, 1, 0), ("copy", 0, 0, 0)]
        for value in wrong:
            self.refused(BadStep, one.step, value)
            self.assertEqual(seen(one), before)
        self.assertEqual(one.step(DROP), 0)

    def test_undoing(self):
        one = session()
        one.step(COPY)
        one.step(DROP)
        self.assertEqual(one.undo(), (DROP, 0))
        self.assertEqual(seen(one), (((0, 1), (0,)), GOAL, [(COPY, 1)], 1, 4))
        self.assertEqual(one.undo(), (COPY, 1))
        self.assertEqual(seen(one), (PLACING, GOAL, [], 0, 0))
        for _ in range(2):
            self.refused(NothingDone, one.undo)
        self.assertEqual(seen(one), (PLACING, GOAL, [], 0, 0))
        self.assertEqual((one.step(COPY), len(one)), (1, 1))

    def test_many_steps(self):
        one = session()
        for _ in range(150):
            self.assertEqual((one.step(COPY), one.step(("drop", 0, 1))), (1, 5))
        self.assertEqual((len(one), one.spent(), one.placing), (300, 750, PLACING))
        for _ in range(300):
            one.undo()
        self.assertEqual(seen(one), (PLACING, GOAL, [], 0, 0))

    def test_sessions_are_independent(self):
        first, second = session(), session()
        first.step(COPY)
        self.assertEqual((len(first), len(second), second.placing), (1, 0, PLACING))

    def test_what_the_properties_return(self):
        one = session()
        one.step(COPY)
        found = one.journal
        self.assertEqual([found.__class__, found[0].__class__, found[0][0].__class__], [list, tuple, tuple])
        found.append((DROP, 0))
        found[0] = None
        self.assertEqual(one.journal, [(COPY, 1)])
        self.assertIsNot(one.journal, one.journal)
        self.assertEqual((len(one), one.undo()), (1, (COPY, 1)))
        for name, value in (("placing", GOAL), ("goal", PLACING), ("journal", [])):
            self.assertIsInstance(vars(Session)[name], property)
            with self.assertRaises(AttributeError):
                setattr(one, name, value)


class BranchTest(Case):

    def test_the_same_at_first(self):
        one = session()
        one.step(COPY)
        twin = one.branch()
        self.assertIs(twin.__class__, Session)
        self.assertIsNot(twin, one)
        self.assertEqual(seen(twin), seen(one))
        self.assertEqual(twin.rest(), one.rest())

    def test_independent(self):
        one = session()
        one.step(COPY)
        twin = one.branch()
        before = seen(one)
        twin.step(DROP)
        self.assertEqual((seen(one), len(twin), twin.placing), (before, 2, GOAL))
        one.step(("drop", 0, 1))
        self.assertEqual((len(twin), twin.placing), (2, GOAL))
        for _ in range(2):
            twin.undo()
        self.refused(NothingDone, twin.undo)
        self.assertEqual(seen(twin), (PLACING, GOAL, [], 0, 0))
        self.assertEqual((one.journal, one.placing), ([(COPY, 1), (("drop", 0, 1), 5)], PLACING))

    def test_of_a_branch(self):
        one = session()
        one.step(COPY)
        twin = one.branch().branch()
        self.assertEqual((twin.undo(), len(one)), ((COPY, 1), 1))

    def test_in_a_trial_all_steps_can_be_undone(self):
        one = session()
        one.step(COPY)
        with one.trial():
            one.step(DROP)
            twin = one.branch()
            self.assertEqual([twin.undo(), twin.undo()], [(DROP, 0), (COPY, 1)])
            self.refused(NothingDone, twin.undo)
            twin.step(SMALL)
            self.assertEqual(seen(one), (GOAL, GOAL, [(COPY, 1), (DROP, 0)], 2, 5))
        self.assertEqual((len(one), len(twin), twin.placing), (1, 1, ((0,), (0, 1))))

    def test_after_a_trial_the_branch_stays(self):
        one = session()
        with one.trial():
            one.step(COPY)
            twin = one.branch()
        self.assertEqual((len(one), seen(twin)), (0, (((0, 1), (0,)), GOAL, [(COPY, 1)], 1, 4)))
        with twin.trial():
            self.refused(NothingDone, twin.undo)
        self.assertEqual(twin.undo(), (COPY, 1))

    def test_a_trial_of_a_branch_does_not_bind_the_session(self):
        one = session()
        one.step(COPY)
        twin = one.branch()
        with twin.trial():
            self.assertEqual(one.undo(), (COPY, 1))
            one.step(SMALL)
        self.assertEqual((one.placing, twin.placing), (((0,), (0, 1)), ((0, 1), (0,))))


class TrialTest(Case):

    def test_the_session_itself(self):
        one = session()
        with one.trial() as inner:
            self.assertIs(inner, one)
            inner.step(COPY)
            self.assertEqual((len(one), one.placing), (1, ((0, 1), (0,))))
        self.assertEqual(seen(one), (PLACING, GOAL, [], 0, 0))

    def test_only_its_own_steps_can_be_undone(self):
        one = session()
        one.step(COPY)
        before = seen(one)
        with one.trial():
            self.refused(NothingDone, one.undo)
            one.step(DROP)
            self.assertEqual(one.undo(), (DROP, 0))
            self.refused(NothingDone, one.undo)
            self.assertEqual(seen(one), before)
            one.step(DROP)
        self.assertEqual(seen(one), before)
        self.assertEqual(one.undo(), (COPY, 1))
        self.refused(NothingDone, one.undo)

    def test_within_one_another(self):
        one = session()
        one.step(COPY)
        with one.trial():
            one.step(DROP)
            with one.trial() as inner:
                self.assertIs(inner, one)
                self.refused(NothingDone, one.undo)
                one.step(("copy", 0, 1, 0))
                with one.trial():
                    self.refused(NothingDone, one.undo)
                self.assertEqual(one.undo(), (("copy", 0, 1, 0), 1))
                one.step(("copy", 0, 1, 0))
            self.assertEqual((one.placing, len(one)), (GOAL, 2))
            self.assertEqual(one.undo(), (DROP, 0))
            self.refused(NothingDone, one.undo)
        self.assertEqual(seen(one), (((0, 1), (0,)), GOAL, [(COPY, 1)], 1, 4))
        self.assertEqual(one.undo(), (COPY, 1))

    def test_one_after_the_other(self):
        one = session()
        for _ in range(3):
            with one.trial():
                self.assertEqual(one.step(COPY), 1)
            self.assertEqual(seen(one), (PLACING, GOAL, [], 0, 0))

    def test_errors_are_passed_on(self):
        one = session()
        one.step(COPY)
        before = seen(one)
        for kind in (Stop, ValueError, KeyboardInterrupt, StopIteration, GeneratorExit, SystemExit):
            error = kind("why")
            with self.assertRaises(kind) as caught:
                with one.trial():
                    one.step(DROP)
                    raise error
            self.assertIs(caught.exception, error)
            self.assertEqual(seen(one), before)
        with self.assertRaises(NothingDone):
            with one.trial():
                one.undo()
        with self.assertRaises(BadStep):
            with one.trial():
                one.step(DROP)
                one.step(DROP)
        self.assertEqual(seen(one), before)
        self.assertEqual(one.undo(), (COPY, 1))

    def test_an_error_that_leaves_several(self):
        one = session()
        with self.assertRaises(Stop):
            with one.trial():
                one.step(COPY)
                with one.trial():
                    one.step(DROP)
                    raise Stop
        self.assertEqual(seen(one), (PLACING, GOAL, [], 0, 0))
        one.step(COPY)
        self.assertEqual(one.undo(), (COPY, 1))

    def test_an_error_that_leaves_only_the_inner_one(self):
        one = session()
        with one.trial():
            one.step(COPY)
            with self.assertRaises(Stop):
                with one.trial():
                    one.step(DROP)
                    raise Stop
            self.assertEqual(one.journal, [(COPY, 1)])
            self.assertEqual(one.undo(), (COPY, 1))
        self.assertEqual(len(one), 0)

    def test_left_by_other_ways(self):
        one = session()

        def returning():
            with one.trial():
                return one.step(COPY)

        self.assertEqual((returning(), len(one)), (1, 0))
        for leave in (True, False):
            for _ in range(2):
                with one.trial():
                    one.step(COPY)
                    if leave:
                        break
                    continue
            self.assertEqual(seen(one), (PLACING, GOAL, [], 0, 0))

        def yielding():
            with one.trial():
                one.step(COPY)
                yield len(one)

        steps = yielding()
        self.assertEqual(next(steps), 1)
        steps.close()
        self.assertEqual((len(one), one.placing), (0, PLACING))

    def test_it_begins_with_the_block(self):
        one = session()
        trial = one.trial()
        one.step(COPY)
        with trial as inner:
            self.assertIs(inner, one)
            self.refused(NothingDone, one.undo)
            one.step(DROP)
        self.assertEqual(one.journal, [(COPY, 1)])
        # The same one again, also within itself.
        with trial:
            one.step(DROP)
            with trial:
                self.refused(NothingDone, one.undo)
                one.step(("copy", 0, 1, 0))
            self.assertEqual((len(one), one.undo()), (2, (DROP, 0)))
            self.refused(NothingDone, one.undo)
        self.assertEqual((one.journal, one.undo()), ([(COPY, 1)], (COPY, 1)))

    def test_a_trial_that_has_not_begun_binds_nothing(self):
        one = session()
        one.step(COPY)
        one.trial()
        self.assertEqual(one.undo(), (COPY, 1))


class TriedTest(Case):

    def test_lists_and_tuples(self):
        one = session()
        for steps in ([COPY, DROP], (COPY, DROP)):
            self.assertEqual(one.tried(steps), [1, 0])
            self.assertEqual(seen(one), (PLACING, GOAL, [], 0, 0))
        self.assertEqual([one.tried([]), one.tried(())], [[], []])
        self.assertIs(one.tried(()).__class__, list)

    def test_after_other_steps(self):
        one = session()
        one.step(COPY)
        before = seen(one)
        self.assertEqual(one.tried([DROP, ("copy", 0, 1, 0)]), [0, 1])
        self.assertEqual(seen(one), before)
        self.assertEqual(one.undo(), (COPY, 1))

    def test_in_a_trial(self):
        one = session()
        one.step(COPY)
        with one.trial():
            one.step(DROP)
            self.assertEqual(one.tried([("copy", 0, 1, 0)]), [1])
            self.assertEqual(self.refused(BadSteps, one.tried, [DROP]).index, 0)
            self.assertEqual(one.undo(), (DROP, 0))
            self.refused(NothingDone, one.undo)
        self.assertEqual(one.undo(), (COPY, 1))

    def test_what_is_no_list_or_tuple(self):
        one = session()
        one.step(COPY)
        before = seen(one)
        for value in [*odd_values(), {DROP: 1}, iter([DROP]), "drop", range(0), {DROP}]:
            if not isinstance(value, (list, tuple)):
                self.assertIsNone(self.refused(BadSteps, one.tried, value).index)
                self.assertEqual(seen(one), before)

    def test_at_most_twenty(self):
        one = session()
        steps = [COPY, ("drop", 0, 1)] * 10
        self.assertEqual(one.tried(steps), [1, 5] * 10)
        self.assertEqual(one.tried(tuple(steps)), [1, 5] * 10)
        for value in (steps + [COPY], tuple(steps + [COPY]), [None] * 21, (None,) * 21, [DROP] * 10 ** 5):
            self.assertIsNone(self.refused(BadSteps, one.tried, value).index)
        for value in ([None] * 20, (None,) * 20):
            self.assertEqual(self.refused(BadSteps, one.tried, value).index, 0)
        self.assertEqual(seen(one), (PLACING, GOAL, [], 0, 0))

    def test_steps_that_are_not_possible(self):
        one = session()
        for value in spoiled(COPY) + [list(COPY), DROP, ("drop", 0, 1), ("copy", 0, 1, 0)]:
            self.assertEqual(self.refused(BadSteps, one.tried, [value, COPY]).index, 0)
            self.assertEqual(self.refused(BadSteps, one.tried, (COPY, ("drop", 0, 1), value)).index, 2)
            self.assertEqual(self.refused(BadSteps, one.tried, [SMALL, ("drop", 1, 1), value, None, None]).index, 2)
            self.assertEqual(seen(one), (PLACING, GOAL, [], 0, 0))
        self.assertEqual(self.refused(BadSteps, one.tried, [COPY, COPY]).index, 1)
        one.step(COPY)
        self.assertEqual(one.undo(), (COPY, 1))

    def test_the_steps_stay_as_they_are(self):
        one, steps = session(), [COPY, DROP]
        found = one.tried(steps)
        self.assertEqual((steps, found), ([COPY, DROP], [1, 0]))
        found.clear()
        self.assertEqual(one.tried(steps), [1, 0])


class LimitTest(Case):
    """With one copy missing, what is left can be seen, with two of them not."""

    FIRST, SECOND = ("drop", 0, 0), ("drop", 1, 1)

    def full(self):
        return Session(make(DEAR), EVERYWHERE, EVERYWHERE)

    def test_what_is_too_large_here(self):
        one = search_after(DEAR, EVERYWHERE, self.FIRST)
        self.assertEqual(least(DEAR, one, EVERYWHERE), 3)
        self.assertEqual(least(DEAR, search_after(DEAR, one, self.SECOND), EVERYWHERE), "TooLarge")

    def test_steps(self):
        one = self.full()
        self.assertEqual((one.rest(), one.step(self.FIRST)), (0, 3))
        before = seen(one)
        for _ in range(2):
            self.refused(TooLarge, one.step, self.SECOND)
            self.assertEqual(seen(one), before)
        self.assertEqual((one.rest(), one.undo()), (3, (self.FIRST, 3)))

    def test_the_beginning(self):
        # What is left at the beginning is not looked at before it is asked for.
        one = Session(make(WIDEST), ((0,),) * 4, ((3,),) * 4)
        self.assertEqual(seen(one), (((0,),) * 4, ((3,),) * 4, [], 0, 0))
        self.refused(TooLarge, one.rest)
        self.refused(TooLarge, one.step, ("copy", 0, 0, 1))
        self.refused(TooLarge, one.tried, [("copy", 0, 0, 1)])
        self.refused(NothingDone, one.undo)
        self.assertEqual(one.tried([]), [])
        self.assertEqual(seen(one.branch()), seen(one))
        self.assertEqual(seen(one), (((0,),) * 4, ((3,),) * 4, [], 0, 0))

    def test_from_what_is_too_large_to_what_is_not(self):
        one = Session(make(DEAR), search_after(DEAR, search_after(DEAR, EVERYWHERE, self.FIRST), self.SECOND), EVERYWHERE)
        self.refused(TooLarge, one.rest)
        self.assertEqual(one.step(("copy", 0, 1, 0)), 3)
        self.assertEqual(one.rest(), 3)
        self.assertEqual(one.undo(), (("copy", 0, 1, 0), 3))
        self.refused(TooLarge, one.rest)
        self.assertEqual((len(one), one.spent()), (0, 0))

    def test_wrong_steps_come_first(self):
        one = Session(make(WIDEST), ((0,),) * 4, ((3,),) * 4)
        for value in (None, ("copy", 0, 1, 2), ("drop", 0, 0)):
            self.refused(BadStep, one.step, value)
            self.assertEqual(self.refused(BadSteps, one.tried, [value, ("copy", 0, 0, 1)]).index, 0)
        self.assertIsNone(self.refused(BadSteps, one.tried, [("copy", 0, 0, 1)] * 21).index)

    def test_tried_goes_step_by_step(self):
        one = self.full()
        one.step(self.FIRST)
        before = seen(one)
        back = ("copy", 0, 1, 0)
        self.refused(TooLarge, one.tried, [self.SECOND, None])
        self.refused(TooLarge, one.tried, [back, self.FIRST, self.SECOND, self.SECOND])
        self.assertEqual(self.refused(BadSteps, one.tried, [back, back, self.SECOND]).index, 1)
        self.assertEqual(self.refused(BadSteps, one.tried, (back, None)).index, 1)
        self.assertEqual(seen(one), before)
        self.assertEqual(one.undo(), (self.FIRST, 3))

    def test_in_a_trial(self):
        one = self.full()
        with self.assertRaises(TooLarge):
            with one.trial():
                one.step(self.FIRST)
                one.step(self.SECOND)
        self.assertEqual((seen(one), one.rest()), ((EVERYWHERE, EVERYWHERE, [], 0, 0), 0))


class RefusalsTest(Case):

    def test_what_is_no_cluster(self):
        for value in [*odd_values(), Cluster, ROW, LooksLikeACluster()]:
            for placing in (PLACING, None):
                self.assertIsNone(self.refused(BadCluster, Session, value, placing, GOAL).part)
                self.assertIsNone(self.refused(BadCluster, Session, value, GOAL, placing).part)

    def test_what_is_no_placing(self):
        for value in spoiled(PLACING) + [((2,), (0,)), ((0,),), [(0,), (0,)], ((0, 1), (1,)), ((0,), (1, 0))]:
            self.refused(BadPlacing, Session, make(ROW), value, GOAL)
            self.refused(BadPlacing, Session, make(ROW), PLACING, value)
            self.refused(BadPlacing, Session, make(ROW), value, value)

    def test_the_error_that_is_documented_first(self):
        for bad in (None, [], True, 99, "no", PLACING):
            self.assertIsNone(self.refused(BadCluster, Session, bad, bad, bad).part)


class InterfaceTest(Case):

    def test_interface(self):
        methods = {"spent": [], "rest": [], "step": ["step"], "undo": [], "branch": [], "trial": [], "tried": ["steps"]}
        for name, names in methods.items():
            self.assertEqual(list(inspect.signature(vars(Session)[name]).parameters)[1:], names)
        self.assertIn("__len__", vars(Session))
        self.assertEqual(list(inspect.signature(Session).parameters), ["cluster", "placing", "goal"])
        self.assertEqual((Session.__module__, module.Session), ("shardmove.sessions", Session))

    def test_by_keyword(self):
        one = Session(goal=GOAL, placing=PLACING, cluster=make(ROW))
        self.assertEqual(one.tried(steps=[COPY]), [1])
        self.assertEqual(one.step(step=COPY), 1)

    def test_the_cluster_stays_as_it_is(self):
        cluster = make(ROW)
        one = Session(cluster, PLACING, GOAL)
        one.step(COPY)
        one.tried([DROP])
        one.undo()
        self.assertEqual(cluster, make(ROW))


if __name__ == "__main__":
    unittest.main()
