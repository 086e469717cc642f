"""Runs: ends in their order, and whether given notices are those of a run."""

from toldlate.bags import Bag
from toldlate.errors import NotAlive, Short
from toldlate.orders import balance, in_order
from toldlate.plans import Notice
from toldlate.words import name_set


class Run:
    """A start and the notices of the ends behind it. Runs do not change."""

    def __init__(self, start, notices=()):
        counts = {kind: number for kind, number in start.pairs}
        jobs = start.jobs
        peak = jobs
        self._start = start
        self._notices = tuple(notices)
        for place, notice in enumerate(self._notices):
            if counts.get(notice.kind, 0) == 0:
                raise NotAlive(place)
            counts[notice.kind] = counts[notice.kind] - 1
            for kind, number in notice.made.pairs:
                counts[kind] = counts.get(kind, 0) + number
            jobs = jobs - 1 + notice.made.jobs
            peak = jobs if jobs > peak else peak
        self._alive = Bag(list(counts.items()))
        self._peak = peak

    @property
    def start(self):
        """The Bag of jobs with which the run begins."""
        return self._start

    @property
    def notices(self):
        """The tuple of the notices, in the order of the ends."""
        return self._notices

    @property
    def alive(self):
        """The Bag of what lives behind all ends."""
        return self._alive

    @property
    def peak(self):
        """The greatest number of jobs that lived at one moment."""
        return self._peak

    def first(self, many):
        """The Run of the first so many ends, of all if there are fewer."""
        return Run(self._start, self._notices[:many])

    def __len__(self):
        return len(self._notices)

    def __iter__(self):
        raise TypeError("a Run is not iterated over")

    def __eq__(self, other):
        return isinstance(other, Run) and self._start == other._start and self._notices == other._notices

    def __add__(self, other):
        if not isinstance(other, Notice):
            return NotImplemented
        return Run(self._start, self._notices + (other,))


def left(start, notices):
    """The Bag of what is in the start and was made, less what ended."""
    found = balance(start, notices)
    for kind, number in found:
        if number < 0:
            raise Short(kind, -number)
    return Bag(found)


def entered(start, notices):
    """The SET of the kinds of which a job can live by these notices."""
    found = {kind: True for kind in start.kinds}
    fresh = list(start.kinds)
    while fresh:
        made = [kind for notice in notices if notice.kind in fresh for kind in notice.made.kinds]
        fresh = [kind for kind in made if kind not in found]
        found.update({kind: True for kind in fresh})
    return name_set(found)


def is_run(start, notices):
    """Whether the notices, in some order, are those of a Run from the start."""
    return why_no_run(start, notices) is None


def order_of(start, notices):
    """A Run with just these notices, in some order; None if there is none."""
    if not is_run(start, notices):
        return None
    return Run(start, in_order(start, notices))


def why_no_run(start, notices):
    """None if this is a run; else the kind that is short, or those cut off."""
    for kind, number in balance(start, notices):
        if number < 0:
            return ("short", kind, -number)
    inside = entered(start, notices)
    outside = name_set([notice.kind for notice in notices if notice.kind not in inside])
    if len(outside) > 0:
        return ("cut off", outside)
    return None


def is_part(run, notices):
    """Whether each Notice stands in the Run at least as often as here."""
    return late(run, notices) is not None


def late(run, notices):
    """The Run's notices that are late if these are held; None if it lacks one."""
    held = {}
    for notice in notices:
        word = _key(notice)
        held[word] = held.get(word, 0) + 1
    found = []
    for notice in run.notices:
        word = _key(notice)
        if held.get(word, 0) > 0:
            held[word] = held[word] - 1
        else:
            found.append(notice)
    if any([number > 0 for number in held.values()]):
        return None
    return tuple(found)


def _key(notice):
    """A key of a dict that equal notices alone have in common."""
    return (notice.kind, notice.outcome, notice.made.pairs)
