"""Readings: what a Clock shows when some notices are held, whatever is late."""

from toldlate.bags import Bag
from toldlate.books import met
from toldlate.checks import check_start
from toldlate.errors import NoKind
from toldlate.runs import is_run, left
from toldlate.totals import crowds, dear_again, dearests, total
from toldlate.webs import Web


def fall(clock, notice):
    """By how much the Notice lowers a reading."""
    return clock[notice.kind] - clock.hands(notice.made)


def reading(clock, start, notices):
    """What the Clock shows when these notices are held."""
    come, ended = _come(start, notices), _ended(notices)
    for kind in (come + ended).kinds:
        if kind not in clock:
            raise NoKind(kind)
    return clock.hands(come) - clock.hands(ended)


def most_alive(plan, start, notices):
    """How many jobs can live at one moment from now on: a pair (number, word)."""
    check_start(plan, start)
    web = Web(plan)
    growing = [kind for kind in met(start, notices) if web.grows(kind)]
    return _most_from_now(crowds(web), start, notices, growing)


def most_cost(plan, start, notices):
    """What the ends that are not held can cost in all: a pair (number, word)."""
    check_start(plan, start)
    web = Web(plan)
    dear = dear_again(web)
    again = [kind for kind in met(start, notices) if kind in dear]
    return _most_from_now(dearests(web), start, notices, again)


def _most_from_now(table, start, notices, endless):
    """The most that can come, by a table of the kinds, and whether it does in some run.

    Of the endless kinds, which were met, late rounds may have left any number.
    """
    if is_run(start, notices):
        if len(endless) > 0:
            return None, "reached"
        return total(table, left(start, notices)), "reached"
    come, ended = total(table, _come(start, notices)), total(table, _ended(notices))
    if come is None or ended is None:
        return None, "bound"
    return come - ended, "bound"


def _come(start, notices):
    """The Bag of the start and of all that was made."""
    return Bag(start.pairs + tuple([pair for notice in notices for pair in notice.made.pairs]))


def _ended(notices):
    """The Bag of all jobs that ended."""
    return Bag([(notice.kind, 1) for notice in notices])
