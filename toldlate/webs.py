"""Webs: which kinds lead to which, and by which outcomes."""

from toldlate.plans import kinds_made
from toldlate.words import name_set


class Web:
    """A plan without the outcomes of ahead. Its kinds stay kinds."""

    def __init__(self, plan, ahead=()):
        barred = {(kind, name): True for kind, name in ahead}
        open_rows = [row for row in plan.rows if (row[0], row[1]) not in barred]
        self._rows = tuple(open_rows)
        self._leads = {kind: _leads_from(open_rows, kind) for kind in plan.kinds}
        self._rings = {kind: self._ring_of(kind) for kind in plan.kinds}

    def _ring_of(self, kind):
        back = [other for other in self._leads[kind] if kind in self._leads[other]]
        return name_set([kind] + back)

    def leads(self, kind):
        """The SET of the kinds that a kind leads to."""
        return self._leads[kind]

    def ring(self, kind):
        """The SET of the kinds of the ring of a kind."""
        return self._rings[kind]

    def rows_of(self, kind):
        """The rows of the outcomes of a kind."""
        return [row for row in self._rows if row[0] == kind]

    def staying_kinds(self, kind, outcome):
        """The kinds of its own ring that an outcome of a kind can make."""
        return [made for made in kinds_made(outcome) if made in self._rings[kind]]

    def is_side(self, kind, outcome):
        """Whether an outcome of a kind stays and can make two jobs or more."""
        if len(self.staying_kinds(kind, outcome)) == 0:
            return False
        return outcome.makes.jobs > 1 or len(outcome.more) > 0

    def sides(self):
        """The rows of all sides, ascending."""
        return [row for row in self._rows if self.is_side(row[0], row[2])]

    def sides_of_ring(self, kind):
        """The rows of the sides of the ring of a kind, ascending."""
        return [row for row in self.sides() if row[0] in self._rings[kind]]

    def grows(self, kind):
        """Whether the ring of a kind has a side."""
        return len(self.sides_of_ring(kind)) > 0

    def path(self, kind, goal):
        """A shortest way to a kind that this one leads to: triples (kind, name, next kind).

        From a kind to itself it has no steps.
        """
        found = {kind: ()}
        waiting = [kind]
        while goal not in found:
            here = waiting.pop(0)
            for _, name, outcome in self.rows_of(here):
                for made in kinds_made(outcome):
                    if made not in found:
                        found[made] = found[here] + ((here, name, made),)
                        waiting.append(made)
        return found[goal]


def _leads_from(rows, kind):
    """The SET of the kinds that a kind leads to by the outcomes of these rows."""
    found = {}
    waiting = [kind]
    while waiting:
        here = waiting.pop()
        for own, _, outcome in rows:
            if own == here:
                fresh = [made for made in kinds_made(outcome) if made not in found]
                found.update({made: True for made in fresh})
                waiting.extend(fresh)
    return name_set(found)
