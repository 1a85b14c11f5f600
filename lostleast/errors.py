"""The errors that the program raises."""


class LossError(ValueError):
    """The base class of all errors of the program."""


class BadText(LossError):
    """A text that writes no game; `at` is the index of the word where it goes wrong."""

    def __init__(self, at):
        LossError.__init__(self, f"no game is written so, from word {at} on")
        self.at = at


class BadPlan(LossError):
    """Entries that make no plan; `at` is the index of the first wrong one."""

    def __init__(self, at):
        LossError.__init__(self, f"entry {at} makes no plan")
        self.at = at


class BadPaper(LossError):
    """Lines that write nothing; `at` is the index of the first wrong or missing one."""

    def __init__(self, at):
        LossError.__init__(self, f"line {at} is wrong or missing")
        self.at = at


class NoShare(LossError):
    """A game of which no share is told; `what` says why: "negative" or "nothing"."""

    def __init__(self, what):
        LossError.__init__(self, f"no share is told: {what}")
        self.what = what


class TooLarge(LossError):
    """A game with too many parts; `what` names them: "nodes" or "comings"."""

    def __init__(self, what):
        LossError.__init__(self, f"there are too many {what}")
        self.what = what


class NoPlan(LossError):
    """A bound that no plan keeps; `least` is the least regret, a Ratio."""

    def __init__(self, least):
        LossError.__init__(self, "no plan has so little regret")
        self.least = least


class BadRatio(LossError):
    """A fraction that does not exist."""
