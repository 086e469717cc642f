"""Books: what the notices held say, whatever is late."""

from toldlate.checks import check_pairs, check_start
from toldlate.errors import NoRun, Open
from toldlate.orders import balance
from toldlate.runs import late, order_of
from toldlate.twins import LateEnds
from toldlate.webs import Web
from toldlate.words import name_set


def books(start, notices):
    """The pairs (kind, number) of all kinds whose number is not 0."""
    return balance(start, notices)


def closed(start, notices):
    """Whether the books balance kind by kind."""
    return len(balance(start, notices)) == 0


def met(start, notices):
    """The SET of the kinds of the start and of all that the notices made."""
    made = [kind for notice in notices for kind in notice.made.kinds]
    return name_set(list(start.kinds) + made)


def sure(plan, start, notices, *, ahead=()):
    """Whether the books are closed and no kind that was met grows."""
    check_start(plan, start)
    check_pairs(plan, ahead)
    web = Web(plan, ahead)
    return closed(start, notices) and not any([web.grows(kind) for kind in met(start, notices)])


def twin(plan, start, notices, *, ahead=()):
    """A run in which just these notices may be held and a job lives, or None."""
    check_start(plan, start)
    check_pairs(plan, ahead)
    found = books(start, notices)
    if len(found) > 0:
        raise Open(found[0][0])
    ends = LateEnds(plan, ahead)
    ways = ends.ways_in(start, notices)
    stray = name_set([notice.kind for notice in notices if notice.kind not in ways])
    if len(stray) > 0:
        raise NoRun(stray)
    growing = [kind for kind in met(start, notices) if ends.grows(kind)]
    if len(growing) == 0:
        return None
    others = [notice for kind in ways for notice in ways[kind]]
    return order_of(start, list(notices) + others + ends.growth(growing[0]))


def is_twin(plan, start, notices, run, *, ahead=()):
    """Whether a run may have just these notices held, and a job lives behind it."""
    check_start(plan, start)
    check_pairs(plan, ahead)
    others = late(run, notices)
    if others is None or run.start != start or run.alive.jobs == 0:
        return False
    if not all([plan.fits(notice) for notice in run.notices]):
        return False
    told = {(kind, name): True for kind, name in ahead}
    return not any([(notice.kind, notice.outcome) in told for notice in others])
