"""Twins: what else can have ended in a run of which closed books are held.

The notices held take away all jobs that the start and they themselves make. So
whatever ends besides must never lack a job: a round hands one job on until it
is of its kind again; and a job that a side makes besides on its round is spare,
so it may end, too, and so may what it makes. All lists of notices here are of
these sorts. It only remains to see that each kind that ends is entered.
"""

from toldlate.bags import Bag
from toldlate.plans import kinds_made
from toldlate.webs import Web
from toldlate.words import name_set


class LateEnds:
    """The ends that can be late, none of them by an outcome of ahead."""

    def __init__(self, plan, ahead):
        self._plan = plan
        self._web = Web(plan, ahead)
        self._turns = {kind: self._turns_of(kind) for kind in plan.kinds}
        self._spills = {kind: self._spills_of(kind) for kind in plan.kinds}
        self._uses = {kind: self._uses_of(kind) for kind in plan.kinds}

    def grows(self, kind):
        """Whether a kind grows without the outcomes of ahead."""
        return self._web.grows(kind)

    def growth(self, kind):
        """Notices of a round by which a job is left over, where a kind grows."""
        side = self._web.sides_of_ring(kind)[0]
        _, notices = self._spills[side[0]][0]
        return notices

    def ways_in(self, start, held):
        """All kinds that can be entered, each with the late notices that it takes.

        Spare jobs come from rings that may themselves be entered only by means
        of spare jobs, maybe of their own. So all kinds are taken to be entered
        at first, and those that are not are given up until it stays as it is.
        """
        kinds = self._plan.kinds
        found = self._entered_by(kinds, start, held)
        while name_set(found) != kinds:
            kinds = name_set(found)
            found = self._entered_by(kinds, start, held)
        return found

    def _entered_by(self, kinds, start, held):
        """What can be entered if the rings that lie in these kinds can be."""
        spares = self._spares(kinds)
        found = {kind: [] for kind in start.kinds}
        waiting = list(start.kinds)
        while waiting:
            here = waiting.pop(0)
            for made, notices in self._openings(here, held, spares):
                if made not in found:
                    found[made] = notices
                    waiting.append(made)
        return found

    def _openings(self, kind, held, spares):
        """What a kind that is entered opens: pairs (kind, late notices)."""
        told = [(made, []) for notice in held if notice.kind == kind for made in notice.made.kinds]
        rounds = self._turns[kind] + self._spills[kind]
        if kind not in spares:
            return told + rounds
        return told + rounds + [(made, spares[kind] + [end]) for made, end in self._uses[kind]]

    def _spares(self, kinds):
        """The spare kinds, each with notices by which a job of it is left over."""
        found = {}
        # With a kind that can be entered its whole ring can, so it lies in these kinds.
        for kind in kinds:
            for over, notices in self._spills[kind]:
                found.setdefault(over, notices)
        waiting = list(found)
        while waiting:
            here = waiting.pop(0)
            for made, end in self._uses[here]:
                if made not in found:
                    found[made] = found[here] + [end]
                    waiting.append(made)
        return found

    def _turns_of(self, kind):
        """Rounds from a kind: pairs (kind that is next, notices)."""
        return [(after, [self._end(kind, name, _one(after))] + self._way_on(after, kind))
                for _, name, outcome in self._web.rows_of(kind)
                for after in self._web.staying_kinds(kind, outcome)]

    def _spills_of(self, kind):
        """Rounds from a side of a kind: pairs (kind that is left over, notices)."""
        found = []
        for _, name, outcome in self._web.rows_of(kind):
            for after in self._web.staying_kinds(kind, outcome):
                for over in kinds_made(outcome):
                    end = self._end(kind, name, _one(after) + _one(over))
                    if end is not None:
                        found.append((over, [end] + self._way_on(after, kind)))
        return found

    def _uses_of(self, kind):
        """Ends of one job of a kind: pairs (kind that it makes, notice)."""
        return [(made, self._end(kind, name, _one(made)))
                for _, name, outcome in self._web.rows_of(kind) for made in kinds_made(outcome)]

    def _way_on(self, kind, goal):
        """Notices that hand a job of one kind on until it is of another."""
        return [self._end(here, name, _one(after)) for here, name, after in self._web.path(kind, goal)]

    def _end(self, kind, name, wanted):
        """The Notice that makes a Bag and no more than needed; None if it cannot."""
        outcome = self._plan[kind, name]
        chosen = Bag([(made, number - outcome.makes[made])
                      for made, number in wanted.pairs if number > outcome.makes[made]])
        if not all([made in outcome.more for made in chosen.kinds]):
            return None
        return self._plan.notice(kind, name, chosen)


def _one(kind):
    """The Bag of one job of a kind."""
    return Bag(((kind, 1),))
