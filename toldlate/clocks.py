"""Clocks: Hands for each kind of job such that no end ever raises what is shown."""

from toldlate.bags import Bag
from toldlate.checks import check_start
from toldlate.errors import BelowZero, Heavy, NoKind
from toldlate.hands import Hands, hand, number_at
from toldlate.plans import Outcome, Plan, kinds_made
from toldlate.rounds import reached
from toldlate.totals import crowds, dearests, lengths, total, ways_to_crowd
from toldlate.webs import Web
from toldlate.words import is_name, name_set, pair_set


class Clock:
    """A table of Hands, one row for each kind. Clocks do not change."""

    def __init__(self, pairs):
        if not all([hands.plain for _, hands in pairs]):
            raise BelowZero()
        self._table = {kind: hands for kind, hands in pairs}
        self._kinds = name_set(self._table)

    @property
    def kinds(self):
        """The SET of the kinds that have Hands here."""
        return self._kinds

    def hands(self, bag):
        """The sum of the Hands of all jobs of a Bag."""
        found = Hands()
        for kind, number in bag.pairs:
            found = found + self[kind] * number
        return found

    def __getitem__(self, at):
        if at not in self:
            raise NoKind(at)
        return self._table[at]

    def __contains__(self, x):
        return is_name(x) and x in self._table

    def __iter__(self):
        raise TypeError("a Clock is not iterated over")

    def __eq__(self, other):
        if not isinstance(other, Clock) or self._kinds != other._kinds:
            return False
        return all([self._table[kind] == other._table[kind] for kind in self._kinds])


def is_good(plan, clock, start):
    """Whether no end of a run from the start can raise the Clock."""
    return breach(plan, clock, start) is None


def breach(plan, clock, start):
    """What keeps the Clock from being good: a kind or a Notice; None if it is good."""
    kinds = reached(plan, start)
    for kind in kinds:
        if kind not in clock:
            return "lacking", kind
    for kind in kinds:
        if clock[kind] == Hands():
            return "zero", kind
    for kind, name, outcome in plan.rows:
        if kind in kinds and bound(clock, outcome) > clock[kind]:
            return "rises", _rising_notice(plan, clock, kind, name)
    return None


def _rising_notice(plan, clock, kind, name):
    """A Notice by this outcome that raises the Clock, if one can."""
    outcome = plan[kind, name]
    if len(outcome.more) == 0:
        return plan.notice(kind, name)
    most = widest(clock, outcome.more)
    # What is made beside is not less than the kind down to the first place of
    # these Hands, so one more than its number there is enough.
    number = number_at(clock[kind], clock[most].places - 1) + 1
    return plan.notice(kind, name, Bag(((most, number),)))


def heavy(plan, start):
    """The SET of the pairs (kind, outcome) that are heavy, of the kinds reached."""
    check_start(plan, start)
    return tuple([(kind, name) for kind, name, _ in _heavy_rows(plan, start)])


def heavy_round(plan, start):
    """A round that begins with a heavy outcome; None if there is none."""
    check_start(plan, start)
    found = _heavy_rows(plan, start)
    if len(found) == 0:
        return None
    web = Web(plan)
    kind, name, outcome = found[0]
    back = web.path(web.staying_kinds(kind, outcome)[0], kind)
    return ((kind, name),) + tuple([(own, step) for own, step, _ in back])


def _heavy_rows(plan, start):
    """The rows of the heavy outcomes of the kinds reached, ascending."""
    web = Web(plan)
    return [row for kind in web.behind(start.kinds) for row in web.rows_of(kind)
            if web.is_heavy(kind, row[2])]


def _word(outcome):
    """The word of a heavy outcome."""
    if len(outcome.more) > 0:
        return "any"
    return "second" if outcome.makes.jobs > 1 else "cost"


def bound(clock, outcome):
    """The least plain Hands not below what an end makes and costs, whatever is chosen."""
    for kind in kinds_made(outcome):
        if kind not in clock:
            raise NoKind(kind)
    fixed = clock.hands(outcome.makes) + hand(0, outcome.cost)
    places = 0 if len(outcome.more) == 0 else clock[widest(clock, outcome.more)].places
    if places == 0:
        return fixed
    upper = fixed.numbers[:max(0, fixed.places - places)]
    return Hands(upper + (0,) * places) + hand(places)


def widest(clock, kinds):
    """The first of these kinds whose Hands have the most places."""
    found = kinds[0]
    for kind in kinds:
        if clock[kind].places > clock[found].places:
            found = kind
    return found


def least_clock(plan, start, *, costs=True):
    """The good Clock of the kinds reached that has of each the least Hands."""
    check_start(plan, start)
    counted = plan if costs else _without_costs(plan)
    found = _heavy_rows(counted, start)
    if len(found) > 0:
        kind, name, outcome = found[0]
        raise Heavy(kind, name, _word(outcome))
    web = Web(counted)
    kinds = web.behind(start.kinds)
    pairs = []
    for ring in web.rings():
        if ring[0] in kinds:
            hands = _hands_of_ring(web, Clock(pairs), ring)
            pairs.extend([(kind, hands) for kind in ring])
    return Clock(pairs)


def _without_costs(plan):
    """The Plan with all costs taken as 0."""
    return Plan([(kind, name, Outcome(outcome.makes, outcome.more)) for kind, name, outcome in plan.rows])


def _hands_of_ring(web, clock, ring):
    """The least Hands of the kinds of a ring, by the Clock of what is behind it."""
    most = hand(0)
    for kind in ring:
        for _, _, outcome in web.rows_of(kind):
            if not web.stays(kind, outcome) and bound(clock, outcome) > most:
                most = bound(clock, outcome)
    return most


def hands_needed(plan, start):
    """The greatest number of places of the least Clock."""
    clock = least_clock(plan, start)
    if len(clock.kinds) == 0:
        return 0
    return clock[widest(clock, clock.kinds)].places


def any_way(plan, start):
    """A way with as many ANYs as there can be: triples (kind, outcome, next)."""
    clock = least_clock(plan, start)
    if len(start) == 0:
        return ()
    here = widest(clock, start.kinds)
    found = ()
    while clock[here].places > 1:
        found = found + _way_to_any(plan, clock, here)
        here = found[-1][2]
    return found


def _way_to_any(plan, clock, kind):
    """The way from a kind up to the first next one in ANY number, of one place less."""
    places = clock[kind].places
    ways = {kind: ()}
    waiting = [kind]
    # Its Hands come from such an ANY, by ways on which all have as many places.
    while True:
        for step in _steps_from(plan, waiting.pop(0)):
            here, name, made = step
            if clock[made].places == places and made not in ways:
                ways[made] = ways[here] + (step,)
                waiting.append(made)
            if clock[made].places == places - 1 and made in plan[here, name].more:
                return ways[here] + (step,)


def _steps_from(plan, kind):
    """The triples (kind, outcome, next) of a kind."""
    return [(kind, name, made) for name in plan.outcomes(kind) for made in kinds_made(plan[kind, name])]


def crowd(plan, start):
    """The greatest number of jobs that live at one moment; None if there is none."""
    check_start(plan, start)
    return total(crowds(Web(plan)), start)


def crowd_ends(plan, start):
    """How many ends of each sort the greatest crowd comes of; None if there is none."""
    check_start(plan, start)
    web = Web(plan)
    table = crowds(web)
    if total(table, start) is None:
        return None
    found = ways_to_crowd(web, table, start)
    return tuple([(plan.notice(kind, name), found[(kind, name)]) for kind, name in pair_set(found)])


def longest(plan, start):
    """The greatest number of ends of a run from the start; None if there is none."""
    check_start(plan, start)
    return total(lengths(Web(plan)), start)


def dearest(plan, start):
    """The greatest sum of the costs of all ends of a run; None if there is none."""
    check_start(plan, start)
    return total(dearests(Web(plan)), start)
