"""A desk: holds the notices that were heard so far, and tells what follows from them."""

from toldlate.books import books, closed, sure, twin
from toldlate.checks import check_kind, check_pairs, check_start
from toldlate.clocks import least_clock
from toldlate.errors import NothingDone, Unlike
from toldlate.plans import Notice
from toldlate.readings import most_alive, reading


class Desk:
    """A plan, a start, what is told ahead, and what was heard. Its deeds change it."""

    def __init__(self, plan, start, ahead=()):
        check_start(plan, start)
        check_pairs(plan, ahead)
        self._start = start
        self._ahead = tuple([(kind, name) for kind, name in ahead])
        # What each deed left behind, the last one at the end: (plan, heard).
        self._states = [(plan, ())]

    @property
    def plan(self):
        """The Plan as it is now."""
        return self._states[-1][0]

    @property
    def start(self):
        """The Bag of jobs with which all begins."""
        return self._start

    @property
    def ahead(self):
        """The SET of the pairs (kind, outcome) that are told ahead."""
        return self._ahead

    @property
    def heard(self):
        """The tuple of the notices, in the order in which they were heard."""
        return self._states[-1][1]

    def __len__(self):
        return len(self._states[-1][1])

    def hear(self, notice):
        """The notice is heard."""
        self.attempt((notice,))

    def __iadd__(self, other):
        if not isinstance(other, Notice):
            return NotImplemented
        self.hear(other)
        return self

    def attempt(self, notices):
        """All of these notices are heard, as one deed, or none is."""
        for notice in notices:
            self._check_notice(notice)
        self._states.append((self.plan, self.heard + tuple(notices)))

    def put(self, kind, name, outcome):
        """From now on the plan has this Outcome here."""
        self._change(kind, name, self.plan.put(kind, name, outcome))

    def without(self, kind, name):
        """From now on the plan does not have this outcome."""
        self._change(kind, name, self.plan.without(kind, name))

    def back(self):
        """Take back the last deed that is not taken back yet."""
        if len(self._states) == 1:
            raise NothingDone()
        self._states.pop()

    def books(self):
        """The books of the notices heard."""
        return books(self._start, self.heard)

    def closed(self):
        """Whether the books are closed."""
        return closed(self._start, self.heard)

    def sure(self):
        """Whether nothing lives, whatever is late."""
        return sure(self.plan, self._start, self.heard, ahead=self._ahead)

    def twin_run(self):
        """A run in which just these notices may be held and a job lives, or None."""
        return twin(self.plan, self._start, self.heard, ahead=self._ahead)

    def reading(self):
        """What the least Clock shows."""
        return reading(least_clock(self.plan, self._start), self._start, self.heard)

    def shown(self):
        """The least Hands with numbers from 0 that are not less than the reading."""
        return self.reading().cut()

    def most_alive(self):
        """How many jobs can live at one moment from now on."""
        return most_alive(self.plan, self._start, self.heard)

    def copied(self):
        """A new Desk in the same state that shares nothing with this one."""
        other = Desk(self.plan, self._start, self._ahead)
        other._states = list(self._states)
        return other

    def _check_notice(self, notice):
        """Raise an error if the plan as it is now does not have such an end."""
        check_kind(self.plan, notice.kind)
        check_pairs(self.plan, ((notice.kind, notice.outcome),))
        if not self.plan.fits(notice):
            raise Unlike(notice.kind, notice.outcome)

    def _change(self, kind, name, plan):
        """Take this plan, changed at this kind and name, if the Desk can stand with it."""
        fitting = all([plan.fits(notice) for notice in self.heard])
        if not fitting or not all([pair in plan for pair in self._ahead]):
            raise Unlike(kind, name)
        if not all([own in plan.kinds for own in self._start.kinds]):
            raise Unlike(kind, name)
        self._states.append((plan, self.heard))
