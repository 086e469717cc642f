"""Webs: which kinds lead to which, and by which outcomes."""

from toldlate.plans import kinds_made
from toldlate.words import name_set


class Web:
    """A plan without the outcomes of ahead. Its kinds stay kinds."""

    def __init__(self, plan, ahead=()):
        barred = {(kind, name): True for kind, name in ahead}
        open_rows = [row for row in plan.rows if (row[0], row[1]) not in barred]
        self._rows = tuple(open_rows)
        self._leads = {kind: _leads_from(open_rows, kind) for kind in plan.kinds}
        self._rings = {kind: self._ring_of(kind) for kind in plan.kinds}

    def _ring_of(self, kind):
        back = [other for other in self._leads[kind] if kind in self._leads[other]]
        return name_set([kind] + back)

    def leads(self, kind):
        """The SET of the kinds that a kind leads to."""
        return self._leads[kind]

    def ring(self, kind):
        """The SET of the kinds of the ring of a kind."""
        return self._rings[kind]

    def behind(self, kinds):
        """The SET of these kinds and of all that they lead to."""
        found = {kind: True for kind in kinds}
        for kind in kinds:
            found.update({other: True for other in self._leads[kind]})
        return name_set(found)

    def rings(self):
        """All rings, each behind those that it leads to."""
        # Who leads to another ring leads to all that this one leads to, and to this one.
        sizes = {kind: len(self.behind([kind])) for kind in self._leads}
        return [self._rings[kind] for size in range(len(sizes) + 1) for kind in sizes
                if sizes[kind] == size and self._rings[kind][0] == kind]

    def rows_of(self, kind):
        """The rows of the outcomes of a kind."""
        return [row for row in self._rows if row[0] == kind]

    def staying_kinds(self, kind, outcome):
        """The kinds of its own ring that an outcome of a kind can make."""
        return [made for made in kinds_made(outcome) if made in self._rings[kind]]

    def stays(self, kind, outcome):
        """Whether an outcome of a kind makes a kind of its own ring."""
        return len(self.staying_kinds(kind, outcome)) > 0

    def is_side(self, kind, outcome):
        """Whether an outcome of a kind stays and can make two jobs or more."""
        if not self.stays(kind, outcome):
            return False
        return outcome.makes.jobs > 1 or len(outcome.more) > 0

    def is_heavy(self, kind, outcome):
        """Whether an outcome of a kind is a side, or stays at a cost."""
        return self.is_side(kind, outcome) or (outcome.cost > 0 and self.stays(kind, outcome))

    def sides(self):
        """The rows of all sides, ascending."""
        return [row for row in self._rows if self.is_side(row[0], row[2])]

    def sides_of_ring(self, kind):
        """The rows of the sides of the ring of a kind, ascending."""
        return [row for row in self.sides() if row[0] in self._rings[kind]]

    def grows(self, kind):
        """Whether the ring of a kind has a side."""
        return len(self.sides_of_ring(kind)) > 0

    def path(self, kind, goal):
        """A shortest way to a kind that this one leads to: triples (kind, name, next kind).

        From a kind to itself it has no steps.
        """
        found = {kind: ()}
        waiting = [kind]
        while goal not in found:
            here = waiting.pop(0)
            for _, name, outcome in self.rows_of(here):
                for made in kinds_made(outcome):
                    if made not in found:
                        found[made] = found[here] + ((here, name, made),)
                        waiting.append(made)
        return found[goal]


def _leads_from(rows, kind):
    """The SET of the kinds that a kind leads to by the outcomes of these rows."""
    found = {}
    waiting = [kind]
    while waiting:
        here = waiting.pop()
        for own, _, outcome in rows:
            if own == here:
                fresh = [made for made in kinds_made(outcome) if made not in found]
                found.update({made: True for made in fresh})
                waiting.extend(fresh)
    return name_set(found)
