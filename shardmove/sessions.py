"""Sessions: steps towards a goal that can be undone, branches, and trials that leave nothing behind."""

from shardmove.errors import BadStep, BadSteps, NothingDone
from shardmove.placings import after, check_both, way_price
from shardmove.plans import least_cost

MOST_TRIED = 20


class State:
    """What a session has at one moment; it is replaced, but never changed, so that a trial can keep it."""

    def __init__(self, passed, pairs, kept):
        # The placings before and after all steps, the journal, and how many steps cannot be undone.
        self.passed = passed
        self.pairs = pairs
        self.kept = kept


class Beginning:
    """The state in which a trial began, and the beginning before it, if the same trial is within itself."""

    def __init__(self, state, earlier):
        self.state = state
        self.earlier = earlier


class Trial:
    """A with-block at whose end a session has the state of its beginning."""

    def __init__(self, session):
        self._session = session
        self._beginning = None

    def __enter__(self):
        state = self._session._state
        self._beginning = Beginning(state, self._beginning)
        self._session._state = State(state.passed, state.pairs, len(state.pairs))
        return self._session

    def __exit__(self, kind, value, trace):
        self._session._state = self._beginning.state
        self._beginning = self._beginning.earlier
        return False


class Session:
    """A placing, a goal, and the journal of the steps that have been made."""

    def __init__(self, cluster, placing, goal):
        check_both(cluster, placing, goal)
        self._cluster = cluster
        self._goal = goal
        self._state = State((placing,), (), 0)

    @property
    def placing(self):
        """The placing after all steps."""
        return self._state.passed[-1]

    @property
    def goal(self):
        """The placing to which the steps shall lead."""
        return self._goal

    @property
    def journal(self):
        """Pairs of each step and what was left after it."""
        return list(self._state.pairs)

    def __len__(self):
        return len(self._state.pairs)

    def spent(self):
        """Return what the steps cost."""
        return way_price(self._cluster, [step for step, _ in self._state.pairs])

    def rest(self):
        """Return what the cheapest way to the goal costs now, None if there is none."""
        return least_cost(self._cluster, self.placing, self._goal)

    def step(self, step):
        """Make a step, and return what is left after it."""
        result = after(self._cluster, self.placing, step)
        left = least_cost(self._cluster, result, self._goal)
        state = self._state
        self._state = State(state.passed + (result,), state.pairs + ((step, left),), state.kept)
        return left

    def undo(self):
        """Take back the last step, and return the pair that the journal had of it."""
        state = self._state
        if len(state.pairs) == state.kept:
            raise NothingDone("no step can be undone")
        self._state = State(state.passed[:-1], state.pairs[:-1], state.kept)
        return state.pairs[-1]

    def branch(self):
        """Return an independent session with the same steps, all of which can be undone in it."""
        state = self._state
        twin = Session(self._cluster, state.passed[0], self._goal)
        twin._state = State(state.passed, state.pairs, 0)
        return twin

    def trial(self):
        """Return a trial, which gives this session itself."""
        return Trial(self)

    def tried(self, steps):
        """Make steps in a trial, and return what is left after each of them."""
        if not isinstance(steps, (list, tuple)) or len(steps) > MOST_TRIED:
            raise BadSteps(None)
        found = []
        with self.trial():
            for index, step in enumerate(steps):
                try:
                    found.append(self.step(step))
                except BadStep:
                    raise BadSteps(index) from None
        return found
