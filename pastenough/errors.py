"""The errors of the package.

No message shows the value that an error keeps: a message is written for every value, however long it is.
"""


class PastError(ValueError):
    """What all errors of the package are."""


class NoBranch(PastError):
    """A value that is not a branch of the trace."""

    def __init__(self, value):
        super().__init__("the value is not a branch of the trace")
        self.value = value


class TooShort(PastError):
    """A length below the reach of a pattern."""

    def __init__(self, reach):
        super().__init__("the length is less than the reach of the pattern")
        self.reach = reach


class TooLong(PastError):
    """More pairs than a trace may have."""

    def __init__(self, limit):
        super().__init__("there would be more pairs than a trace may have")
        self.limit = limit


class TooManyBranches(PastError):
    """More branches than a trace may have."""

    def __init__(self, limit):
        super().__init__("there would be more branches than a trace may have")
        self.limit = limit


class BadScheme(PastError):
    """A value that is not a scheme."""

    def __init__(self, value):
        super().__init__("the value is not a scheme")
        self.value = value


class BadCounter(PastError):
    """A value that is not a counter."""

    def __init__(self, value):
        super().__init__("the value is not a counter")
        self.value = value


class BadBranch(PastError):
    """A value that is not a branch."""

    def __init__(self, value):
        super().__init__("the value is not a branch")
        self.value = value


class BadOutcome(PastError):
    """A value that is not an outcome."""

    def __init__(self, value):
        super().__init__("the value is not an outcome")
        self.value = value


class NothingToUndo(PastError):
    """No learned pair is left to take back."""

    def __init__(self):
        super().__init__("no learned pair is left to take back")


class NoCell(PastError):
    """A value that is not a cell which a predictor used."""

    def __init__(self, value):
        super().__init__("the value is not a cell that was used for a learned pair")
        self.value = value


class NoPredictor(PastError):
    """A value that is not a Predictor."""

    def __init__(self):
        super().__init__("the value is not a Predictor")


class BadText(PastError):
    """A value that is not the text of what was to be read."""

    def __init__(self, text):
        super().__init__("the value is not the text of what was to be read")
        self.text = text


class BadLine(PastError):
    """A value that is not a line which a desk answers."""

    def __init__(self, line):
        super().__init__("the value is not a line that a desk answers")
        self.line = line


class NoTrace(PastError):
    """A desk has no trace yet."""

    def __init__(self):
        super().__init__("the desk has no trace yet")
