"""Checks of arguments that several modules make."""

from toldlate.errors import NoKind, NoOutcome


def check_kind(plan, kind):
    """Raise NoKind if this is no kind of the plan."""
    if kind not in plan.kinds:
        raise NoKind(kind)


def check_start(plan, start):
    """Raise NoKind for the least kind of the start that the plan does not have."""
    for kind in start.kinds:
        check_kind(plan, kind)


def check_pairs(plan, pairs):
    """Raise NoOutcome for the first pair that is no outcome of the plan."""
    for kind, name in pairs:
        if (kind, name) not in plan:
            raise NoOutcome(kind, name)
