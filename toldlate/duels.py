"""Duels: from below the least Clock every countdown is beaten."""

from toldlate.bags import Bag
from toldlate.clocks import bound, least_clock, widest
from toldlate.errors import Beaten, NotBelow, NotDown, Unending
from toldlate.hands import hand, last_place, number_at
from toldlate.plans import kinds_made
from toldlate.rounds import reached, unending
from toldlate.webs import Web


class Duel:
    """Plays against a keeper who names lesser and lesser Hands, one for each end."""

    def __init__(self, plan, start, first):
        _check_ending(plan, start)
        clock = least_clock(plan, start)
        if not first < clock.hands(start):
            raise NotBelow()
        self._plan = plan
        self._start = start
        self._clock = clock
        self._names = _names_of_ends(plan, clock)
        self._now = first
        self._alive = start
        self._ends = []
        self._prepare()

    @property
    def plan(self):
        """The plan of all that ends."""
        return self._plan

    @property
    def start(self):
        """The Bag of jobs with which the duel began."""
        return self._start

    @property
    def now(self):
        """The Hands that were named last."""
        return self._now

    @property
    def alive(self):
        """The Bag of the jobs that live."""
        return self._alive

    @property
    def ends(self):
        """The tuple of the Notices of all ends that took place."""
        return tuple(self._ends)

    @property
    def price(self):
        """The price of the next end."""
        return self._price

    @property
    def beaten(self):
        """Whether less is left than the next end costs."""
        return self._now < hand(0, self._price)

    def next_end(self):
        """The Notice of the end that comes next."""
        return self._coming

    def answer(self, hands):
        """The next end takes place, and the keeper names these Hands."""
        if self.beaten:
            raise Beaten()
        if hands + hand(0, self._price) > self._now:
            raise NotDown()
        end = self._coming
        self._now = hands
        self._alive = self._alive - Bag(((end.kind, 1),)) + end.made
        self._ends.append(end)
        self._prepare()

    def play(self, keeper, most):
        """Let the keeper answer up to so many ends; returns how many it answered."""
        answered = 0
        while answered < most and not self.beaten:
            self.answer(keeper(self._coming, self._price, self._now))
            answered = answered + 1
        return answered

    def _prepare(self):
        """Choose the end that comes next."""
        kind = _rightmost(self._clock, self._alive.kinds)
        name = self._names[kind]
        outcome = self._plan[kind, name]
        self._coming = self._plan.notice(kind, name, self._chosen(kind, outcome))
        self._price = _price_of(outcome)

    def _chosen(self, kind, outcome):
        """What a job of a kind makes besides by a tight outcome, to be above what was named."""
        if len(outcome.more) == 0:
            return Bag()
        # As many of the widest kind as no Hands can allow that have at the last
        # place of the kind one less than it, and behind it what was named there.
        number = number_at(self._now, last_place(self._clock[kind]) - 1) + 1
        return Bag(((widest(self._clock, outcome.more), number),))


def _check_ending(plan, start):
    """Raise NoKind as reached does, then Unending for the least kind reached that is unending."""
    endless = unending(plan)
    for kind in reached(plan, start):
        if kind in endless:
            raise Unending(kind)


def _price_of(outcome):
    """The price of an end by this outcome."""
    return max(1, outcome.cost) if len(kinds_made(outcome)) == 0 else outcome.cost


def _is_tight(clock, kind, outcome):
    """Whether an end by an outcome that does not stay takes no more than it must."""
    if len(kinds_made(outcome)) == 0:
        return clock[kind] == hand(0, _price_of(outcome))
    return clock[kind] == bound(clock, outcome)


def _names_of_ends(plan, clock):
    """Of each kind the name of the outcome by which it ends in a duel.

    That is a tight one if there is one; if not, the first step of a shortest way
    within the ring to a kind that has one.
    """
    web = Web(plan)
    rows = [row for row in plan.rows if row[0] in clock]
    names = {kind: name for kind, name, outcome in rows
             if not web.stays(kind, outcome) and _is_tight(clock, kind, outcome)}
    while len(names) < len(clock.kinds):
        fresh = [(kind, name) for kind, name, outcome in rows if kind not in names
                 and any([made in names for made in web.staying_kinds(kind, outcome)])]
        names.update({kind: name for kind, name in fresh})
    return names


def _rightmost(clock, kinds):
    """The first of these kinds whose Hands have their last place furthest to the right."""
    found = kinds[0]
    for kind in kinds:
        if last_place(clock[kind]) < last_place(clock[found]):
            found = kind
    return found
