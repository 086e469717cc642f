"""The errors of the package: each keeps what it was told in attributes."""


class LateError(ValueError):
    """The base of all errors of this package."""


class NoName(LateError):
    """A value stands where a NAME is required."""

    def __init__(self, value):
        self.value = value


class NoKind(LateError):
    """A kind is not there."""

    def __init__(self, kind):
        self.kind = kind


class NoOutcome(LateError):
    """A kind does not have an outcome of this name."""

    def __init__(self, kind, outcome):
        self.kind = kind
        self.outcome = outcome


class NoAny(LateError):
    """A kind was chosen that an outcome does not make in ANY number."""

    def __init__(self, kind):
        self.kind = kind


class Short(LateError):
    """Of a kind so many jobs are lacking."""

    def __init__(self, kind, lacking):
        self.kind = kind
        self.lacking = lacking


class BelowZero(LateError):
    """A number, or Hands as a whole, would be below zero."""


class Unending(LateError):
    """A kind never comes to an end."""

    def __init__(self, kind):
        self.kind = kind


class Heavy(LateError):
    """An outcome is heavy; the word says why."""

    def __init__(self, kind, outcome, word):
        self.kind = kind
        self.outcome = outcome
        self.word = word


class Unlike(LateError):
    """Two things that must be alike under this kind and name are not."""

    def __init__(self, kind, outcome):
        self.kind = kind
        self.outcome = outcome


class NotAlive(LateError):
    """At this place of a run no job of the kind that ends is alive."""

    def __init__(self, place):
        self.place = place


class Open(LateError):
    """The books are open at this kind."""

    def __init__(self, kind):
        self.kind = kind


class NoRun(LateError):
    """No run has the notices held; stray are the kinds that nothing makes."""

    def __init__(self, stray):
        # The caller may go on to change a list that it passed for the SET.
        self.stray = tuple(stray) if isinstance(stray, list) else stray


class NotEnough(LateError):
    """What is told ahead is not enough."""


class NotBelow(LateError):
    """The first Hands of a duel are not below those of the start."""


class NotDown(LateError):
    """The Hands that were named do not go down by the price."""


class Beaten(LateError):
    """The countdown of a duel is beaten."""


class BadLine(LateError):
    """The line with this number, counted from 0, cannot stand there."""

    def __init__(self, number):
        self.number = number


class NothingDone(LateError):
    """There is no deed to take back."""
