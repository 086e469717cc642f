"""Changes of a plan: which notices a Clock does not need, and what becomes of the least Clock."""

from toldlate.bags import Bag
from toldlate.clocks import bound, heavy, least_clock
from toldlate.errors import NoKind
from toldlate.hands import Hands, hand
from toldlate.rounds import reached


def spared(plan, clock, start):
    """The SET of the pairs (kind, outcome) whose ends never change a reading."""
    kinds = reached(plan, start)
    for kind in kinds:
        if kind not in clock:
            raise NoKind(kind)
    return tuple([(kind, name) for kind, name, outcome in plan.rows
                  if kind in kinds and _makes_just(clock, outcome, clock[kind])])


def _makes_just(clock, outcome, hands):
    """Whether what an outcome makes has just these Hands, whatever is chosen."""
    if any([clock[kind] != Hands() for kind in outcome.more]):
        return False
    return clock.hands(outcome.makes) == hands


def slack(plan, start):
    """The SET of the pairs (kind, outcome) that could take more than they do."""
    clock = least_clock(plan, start)
    return tuple([(kind, name) for kind, name, outcome in plan.rows
                  if kind in clock and bound(clock, outcome) < clock[kind]])


def alike(plan, other, start):
    """Whether the least Clocks of both plans are equal."""
    return least_clock(plan, start) == least_clock(other, start)


def compared(plan, bag, other):
    """How the Hands of one Bag compare with those of the other one, by the least Clock."""
    clock = least_clock(plan, bag + other)
    one, two = clock.hands(bag), clock.hands(other)
    if one == two:
        return "equal"
    return "less" if one < two else "more"


def put_word(plan, start, kind, name, outcome):
    """The word of the change to the plan with this outcome."""
    clock = least_clock(plan, start)
    return _word(clock, plan.put(kind, name, outcome), start)


def out_word(plan, start, kind, name):
    """The word of the change to the plan without this outcome."""
    clock = least_clock(plan, start)
    return _word(clock, plan.without(kind, name), start)


def _word(clock, changed, start):
    """The word of a change, by the least Clock ahead of it and the plan behind it."""
    known = Bag([(kind, number) for kind, number in start.pairs if kind in changed.kinds])
    if len(heavy(changed, known)) > 0:
        return "none"
    after = least_clock(changed, known)
    # What the changed plan does not know any more counts as a kind without outcomes.
    pairs = [(clock[kind], hand(0)) for kind in start.kinds if kind not in after]
    pairs = pairs + [(clock[kind], after[kind]) for kind in after.kinds if kind in clock]
    if any([new > old for old, new in pairs]):
        return "greater"
    return "less" if any([new < old for old, new in pairs]) else "same"
