"""Live predictors, which are told branches and outcomes one by one, and trials of them."""

from pastenough.counters import predicted, value_after
from pastenough.errors import BadBranch, BadCounter, BadOutcome, BadScheme, NoCell, NoPredictor, NothingToUndo
from pastenough.histories import cell_of, owner_of, pushed
from pastenough.memory import Kept, Memory, Step
from pastenough.traces import is_branch, is_counter, is_integer, is_outcome, is_scheme, is_tuple_sized


class Predictor:
    """A predictor with a scheme and a counter. Raises BadScheme, then BadCounter."""

    def __init__(self, scheme, counter):
        if not is_scheme(scheme):
            raise BadScheme(scheme)
        if not is_counter(counter):
            raise BadCounter(counter)
        self._scheme = scheme
        self._counter = counter
        self._memory = Memory()

    @property
    def scheme(self):
        """The scheme."""
        return self._scheme

    @property
    def counter(self):
        """The counter."""
        return self._counter

    @property
    def errors(self):
        """How many of the learned pairs were predicted wrongly."""
        return self._memory.wrong

    @property
    def learned(self):
        """The tuple of the learned pairs."""
        return tuple([step.pair for step in self._memory.steps])

    def predict(self, branch):
        """The prediction for a branch now. Raises BadBranch."""
        bits, first = self._counter
        return predicted(bits, self._memory.cells.get(self.cell(branch), first))

    def history(self, branch):
        """The history for a branch now. Raises BadBranch."""
        if not is_branch(branch):
            raise BadBranch(branch)
        return self._newest(branch)

    def cell(self, branch):
        """The cell for a branch now. Raises BadBranch."""
        return cell_of(self._scheme, branch, self.history(branch))

    def learn(self, branch, outcome):
        """Learns an outcome of a branch; whether the prediction was right. Raises BadBranch, then BadOutcome."""
        if not is_branch(branch):
            raise BadBranch(branch)
        if not is_outcome(outcome):
            raise BadOutcome(outcome)
        return self._take(branch, outcome)

    def __call__(self, branch, outcome):
        """What learn does."""
        return self.learn(branch, outcome)

    def learn_all(self, trace, rounds):
        """Learns all pairs of so many rounds of a trace; the number of errors among them."""
        before = self._memory.wrong
        for _ in range(rounds):
            for branch, outcome in trace:
                self._take(branch, outcome)
        return self._memory.wrong - before

    def undo(self):
        """Takes back the last learned pair and returns it. Raises NothingToUndo."""
        if len(self._memory.steps) == 0:
            raise NothingToUndo()
        return self._memory.take_back()

    def copy(self):
        """An independent predictor that has learned the same."""
        other = Predictor(self._scheme, self._counter)
        other._memory = self._memory.copied()
        return other

    def __getitem__(self, at):
        """The value of a cell that was used for a learned pair. Raises NoCell."""
        if not self._has(at):
            raise NoCell(at)
        return self._memory.cells[at]

    def __contains__(self, x):
        return self._has(x)

    def __len__(self):
        return len(self._memory.cells)

    def __iter__(self):
        raise TypeError("a predictor cannot be iterated over")

    def __eq__(self, other):
        return (
            isinstance(other, Predictor)
            and self.scheme == other.scheme
            and self.counter == other.counter
            and self.learned == other.learned
        )

    def _newest(self, branch):
        owner = owner_of(self._scheme, branch)
        return self._memory.histories.get(owner, "0" * self._scheme[1])

    def _take(self, branch, outcome):
        """Learns an outcome of a branch; whether the prediction was right."""
        bits, first = self._counter
        history = self._newest(branch)
        cell = cell_of(self._scheme, branch, history)
        old_value = self._memory.cells.get(cell)
        value = first if old_value is None else old_value
        is_wrong = predicted(bits, value) != outcome
        step = Step((branch, outcome), is_wrong, owner_of(self._scheme, branch), history, cell, old_value)
        self._memory.keep(step, pushed(history, outcome), value_after(bits, value, outcome))
        return not is_wrong

    def _has(self, value):
        """Whether any value is a cell that was used for a learned pair."""
        # Only what looks like a cell is looked up: a list cannot be, and True would be found as 1.
        return _is_like_a_cell(self._scheme, value) and value in self._memory.cells


class Trial:
    """A context manager: at the end of its block the predictor is as it was at the beginning. Raises NoPredictor."""

    def __init__(self, predictor):
        if not isinstance(predictor, Predictor):
            raise NoPredictor()
        self._predictor = predictor
        self._kept = None

    def __enter__(self):
        memory = self._predictor._memory
        # A chain, since one trial may begin again within its own block.
        self._kept = Kept(memory, self._kept)
        self._predictor._memory = memory.copied()
        return self._predictor

    def __exit__(self, kind, value, trace):
        self._predictor._memory = self._kept.memory
        self._kept = self._kept.outer


def tried(predictor, look):
    """What look returns for the predictor, which is behind it as it was ahead of it. Raises NoPredictor."""
    with Trial(predictor) as held:
        return look(held)


def _is_like_a_cell(scheme, value):
    """Whether any value has the form of a cell of a scheme."""
    if scheme[0] == "folded":
        return is_integer(value)
    if scheme[0] == "shared":
        return isinstance(value, str)
    return is_tuple_sized(value, 2, 2) and is_integer(value[0]) and isinstance(value[1], str)
