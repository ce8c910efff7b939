"""What a live predictor has learned, kept so that each step of it can be taken back."""


class Step:
    """One learned pair, and what it changed: a history, and the value of a cell (None for a cell not used before)."""

    def __init__(self, pair, is_wrong, owner, old_history, place, old_value):
        self.pair = pair
        self.is_wrong = is_wrong
        self.owner = owner
        self.old_history = old_history
        self.place = place
        self.old_value = old_value


class Memory:
    """All that a predictor has learned: its steps, and the histories, cells and wrong predictions behind them."""

    def __init__(self):
        self.steps = []
        self.histories = {}
        self.cells = {}
        self.wrong = 0

    def keep(self, step, history, value):
        """Adds a step, with the history and the value behind it."""
        self.steps.append(step)
        self.histories[step.owner] = history
        self.cells[step.place] = value
        if step.is_wrong:
            self.wrong += 1

    def take_back(self):
        """Takes back the last step and returns its pair."""
        step = self.steps.pop()
        self.histories[step.owner] = step.old_history
        if step.old_value is None:
            del self.cells[step.place]
        else:
            self.cells[step.place] = step.old_value
        if step.is_wrong:
            self.wrong -= 1
        return step.pair

    def copied(self):
        """An independent memory of the same. Steps never change, so both may hold them."""
        other = Memory()
        other.steps = list(self.steps)
        other.histories = {owner: self.histories[owner] for owner in self.histories}
        other.cells = {cell: self.cells[cell] for cell in self.cells}
        other.wrong = self.wrong
        return other


class Kept:
    """A memory that a trial keeps, and what it kept ahead of that (None at first)."""

    def __init__(self, memory, outer):
        self.memory = memory
        self.outer = outer
