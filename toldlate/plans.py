"""Plans: what jobs can make at their ends, and the notices of these ends."""

from toldlate.bags import Bag
from toldlate.checks import check_kind, check_pairs
from toldlate.errors import NoAny, NoName, Unlike
from toldlate.words import is_name, name_set, pair_set


class Outcome:
    """What a job makes at its end. Outcomes do not change."""

    def __init__(self, makes=None, more=(), cost=0):
        for kind in more:
            if not is_name(kind):
                raise NoName(kind)
        self._makes = Bag() if makes is None else makes
        self._more = name_set(more)
        self._cost = cost

    @property
    def makes(self):
        """The Bag of what is always made."""
        return self._makes

    @property
    def more(self):
        """The SET of the kinds that are made in ANY number."""
        return self._more

    @property
    def cost(self):
        """What an end by this outcome costs."""
        return self._cost

    def __eq__(self, other):
        if not isinstance(other, Outcome):
            return False
        return self._makes == other._makes and self._more == other._more and self._cost == other._cost


class Notice:
    """Tells of one end: its kind, its outcome and what was made."""

    def __init__(self, kind, outcome, made):
        _check_names(kind, outcome)
        self.kind = kind
        self.outcome = outcome
        self.made = made

    def __eq__(self, other):
        if not isinstance(other, Notice):
            return False
        return self.kind == other.kind and self.outcome == other.outcome and self.made == other.made


class Plan:
    """Tells for each kind of job its outcomes. Plans do not change."""

    def __init__(self, rows=()):
        table = {}
        for kind, name, outcome in rows:
            _check_names(kind, name)
            if table.get((kind, name), outcome) != outcome:
                raise Unlike(kind, name)
            table[(kind, name)] = outcome
        self._table = table
        self._rows = tuple([(kind, name, table[(kind, name)]) for kind, name in pair_set(table)])
        ending = [kind for kind, _ in table]
        made = [kind for pair in table for kind in kinds_made(table[pair])]
        self._kinds = name_set(ending + made)

    @property
    def rows(self):
        """The triples (kind, name, Outcome), ascending by kind and name."""
        return self._rows

    @property
    def kinds(self):
        """The SET of the kinds that have an outcome or that one makes."""
        return self._kinds

    def outcomes(self, kind):
        """The SET of the names of the outcomes of a kind."""
        check_kind(self, kind)
        return tuple([name for own, name, _ in self._rows if own == kind])

    def put(self, kind, name, outcome):
        """The Plan that has this Outcome here, and all others as they are."""
        return Plan(self._other_rows(kind, name) + [(kind, name, outcome)])

    def without(self, kind, name):
        """The Plan without this outcome."""
        self._check_outcome(kind, name)
        return Plan(self._other_rows(kind, name))

    def notice(self, kind, name, chosen=None):
        """The Notice of an end at which chosen was made besides what is fixed."""
        outcome = self[kind, name]
        if chosen is None:
            return Notice(kind, name, outcome.makes)
        for extra in chosen.kinds:
            if extra not in outcome.more:
                raise NoAny(extra)
        return Notice(kind, name, outcome.makes + chosen)

    def fits(self, notice):
        """Whether an end by an outcome of this plan can have this Notice."""
        if (notice.kind, notice.outcome) not in self:
            return False
        outcome = self[notice.kind, notice.outcome]
        if not outcome.makes.within(notice.made):
            return False
        return all([kind in outcome.more for kind in (notice.made - outcome.makes).kinds])

    def __len__(self):
        return len(self._rows)

    def __getitem__(self, at):
        kind, name = at
        self._check_outcome(kind, name)
        return self._table[(kind, name)]

    def __contains__(self, x):
        if not isinstance(x, (tuple, list)) or len(x) != 2:
            return False
        # Other values need not even be fit for a key of a dict.
        return is_name(x[0]) and is_name(x[1]) and (x[0], x[1]) in self._table

    def __iter__(self):
        raise TypeError("a Plan is not iterated over")

    def __eq__(self, other):
        return isinstance(other, Plan) and self._rows == other._rows

    def __or__(self, other):
        if not isinstance(other, Plan):
            return NotImplemented
        # The rows of other ascend, so the first pair that is unlike is told.
        return Plan(self._rows + other._rows)

    def _other_rows(self, kind, name):
        """The list of the rows but the one of this kind and name."""
        return [row for row in self._rows if (row[0], row[1]) != (kind, name)]

    def _check_outcome(self, kind, name):
        """Raise NoKind or NoOutcome if the plan has no such outcome."""
        check_kind(self, kind)
        check_pairs(self, ((kind, name),))


def kinds_made(outcome):
    """The SET of the kinds that an Outcome can make."""
    return name_set(outcome.makes.kinds + outcome.more)


def _check_names(kind, name):
    """Raise NoName for the kind, then for the name of an outcome."""
    if not is_name(kind):
        raise NoName(kind)
    if not is_name(name):
        raise NoName(name)
