"""Rounds: which kinds can come again, and which rounds make more on their way."""

from toldlate.checks import check_kind, check_pairs, check_start
from toldlate.plans import kinds_made
from toldlate.webs import Web


def leads(plan, kind):
    """The SET of the kinds that a kind leads to."""
    check_kind(plan, kind)
    return Web(plan).leads(kind)


def ring(plan, kind):
    """The SET of this kind and all that it leads to and that lead to it."""
    check_kind(plan, kind)
    return Web(plan).ring(kind)


def reached(plan, start):
    """The SET of the kinds of the start and of all that these lead to."""
    check_start(plan, start)
    return Web(plan).behind(start.kinds)


def unending(plan):
    """The SET of the kinds from one job of which nobody comes to nothing."""
    ending = {}
    fresh = _ending_by(plan, ending)
    while fresh:
        ending.update({kind: True for kind in fresh})
        fresh = _ending_by(plan, ending)
    return tuple([kind for kind in plan.kinds if kind not in ending])


def _ending_by(plan, ending):
    """The other kinds with an outcome that makes, if anything, ending kinds."""
    return [kind for kind, _, outcome in plan.rows
            if kind not in ending and all([made in ending for made in outcome.makes.kinds])]


def sides(plan, *, ahead=()):
    """The SET of the pairs (kind, outcome) that are sides."""
    check_pairs(plan, ahead)
    return tuple([(kind, name) for kind, name, _ in Web(plan, ahead).sides()])


def grows(plan, kind, *, ahead=()):
    """Whether the ring of this kind has a side."""
    check_kind(plan, kind)
    check_pairs(plan, ahead)
    return Web(plan, ahead).grows(kind)


def round_of(plan, kind, *, ahead=()):
    """A growing round that begins at this kind; None if it does not grow."""
    check_kind(plan, kind)
    check_pairs(plan, ahead)
    web = Web(plan, ahead)
    found = web.sides_of_ring(kind)
    if len(found) == 0:
        return None
    side_kind, side_name, outcome = found[0]
    next_kind = web.staying_kinds(side_kind, outcome)[0]
    there, back = web.path(kind, side_kind), web.path(next_kind, kind)
    steps = there + ((side_kind, side_name, next_kind),) + back
    return tuple([(own, name) for own, name, _ in steps])


def is_round(plan, thing):
    """Whether a value is a round of the plan."""
    if not isinstance(thing, tuple) or len(thing) == 0:
        return False
    if not all([isinstance(pair, tuple) and pair in plan for pair in thing]):
        return False
    following = thing[1:] + thing[:1]
    return all([then[0] in kinds_made(plan[pair]) for pair, then in zip(thing, following)])


def is_growing(plan, thing):
    """Whether a value is a round of the plan, one of whose outcomes is a side."""
    if not is_round(plan, thing):
        return False
    found = sides(plan)
    return any([pair in found for pair in thing])
