"""Plans by chance (always the same ones), and slow answers that are plainly right."""

import itertools
import random
from collections import Counter

from toldlate.bags import Bag
from toldlate.plans import Outcome, Plan


def random_bag(rng, kinds):
    return Bag([(rng.choice(kinds), 1) for _ in range(rng.choice((0, 0, 1, 1, 1, 2, 2, 3)))])


def random_plan(rng, most_kinds=4, most_outcomes=7):
    kinds = "abcdefgh"[:rng.randint(1, most_kinds)]
    table = {}
    for _ in range(rng.randint(1, most_outcomes)):
        more = tuple(kind for kind in kinds if rng.random() < 0.1)
        table[rng.choice(kinds), rng.choice("pqr")] = Outcome(random_bag(rng, kinds), more)
    return Plan([(kind, name, outcome) for (kind, name), outcome in table.items()])


def random_plans(seed, many, most_kinds=4, most_outcomes=7):
    rng = random.Random(seed)
    return [random_plan(rng, most_kinds, most_outcomes) for _ in range(many)]


def pairs_of(plan):
    return tuple((kind, name) for kind, name, _ in plan.rows)


def made_by(outcome):
    return set(outcome.makes.kinds) | set(outcome.more)


def leading(plan, ahead=()):
    """All pairs of kinds of which the first leads to the second."""
    found = {(kind, made) for kind, name, outcome in plan.rows
             if (kind, name) not in ahead for made in made_by(outcome)}
    for middle, one, two in itertools.product(plan.kinds, repeat=3):
        if (one, middle) in found and (middle, two) in found:
            found.add((one, two))
    return found


def ring_by(found, plan, kind):
    return {other for other in plan.kinds
            if other == kind or (kind, other) in found and (other, kind) in found}


def sides_by(plan, ahead=()):
    """The set of the sides, by the words of [2]."""
    found = leading(plan, ahead)
    sides = set()
    for kind, name, outcome in plan.rows:
        stays = made_by(outcome) & ring_by(found, plan, kind)
        two_of_a_kind = any(number >= 2 for _, number in outcome.makes.pairs)
        two_kinds = len(made_by(outcome)) >= 2
        if (kind, name) not in ahead and stays and (two_of_a_kind or two_kinds or outcome.more):
            sides.add((kind, name))
    return sides


def growing_by(plan, ahead=()):
    """The set of the kinds that grow."""
    found, sides = leading(plan, ahead), sides_by(plan, ahead)
    return {kind for kind in plan.kinds
            if any(own in ring_by(found, plan, kind) for own, _ in sides)}


def key(notice):
    return notice.kind, notice.outcome, notice.made.pairs


def notices_by(plan, pairs, top):
    """All notices of these outcomes with ANY numbers up to top."""
    return [plan.notice(kind, name, Bag(tuple(zip(plan[kind, name].more, numbers))))
            for kind, name in pairs
            for numbers in itertools.product(range(top + 1), repeat=len(plan[kind, name].more))]


def can_be_ordered(start, notices):
    """Whether some order of the notices is a run, by trying all orders."""
    everything = (1 << len(notices)) - 1
    refused = set()

    def from_here(alive, taken):
        if taken == everything:
            return True
        if taken in refused:
            return False
        refused.add(taken)
        return any(from_here(after(alive, notice), taken | 1 << at)
                   for at, notice in enumerate(notices)
                   if not taken >> at & 1 and alive[notice.kind] > 0)

    return from_here(start, 0)


def after(alive, notice):
    return alive - Bag(((notice.kind, 1),)) + notice.made


def runs_with(plan, start, held, ahead, most_alive):
    """Which runs there are that have the notices held, and none of ahead besides.

    The set of what can be said of what lives behind them ("all is done", "a job
    lives"), by trying all runs in which at most so many jobs live at once. None
    if these are too many.
    """
    free = notices_by(plan, [pair for pair in pairs_of(plan) if pair not in ahead], 2)
    first = (start.pairs, tuple(sorted(Counter(key(notice) for notice in held).items())))
    seen, waiting, said = {first}, [first], set()
    while waiting and len(seen) < 20000:
        pairs, missing = waiting.pop()
        alive = Bag(pairs)
        if not missing:
            said.add("a job lives" if pairs else "all is done")
        steps = [(alive_after(alive, notice.kind, notice.made), missing)
                 for notice in free if notice.kind in alive]
        steps += [(alive_after(alive, kind, Bag(made)), without(missing, (kind, name, made)))
                  for (kind, name, made), _ in missing if kind in alive]
        for bag, lacking in steps:
            state = (bag.pairs, lacking)
            if bag.jobs <= most_alive and state not in seen:
                seen.add(state)
                waiting.append(state)
    return None if waiting else said


def alive_after(alive, kind, made):
    return alive - Bag(((kind, 1),)) + made


def without(counted, taken):
    fewer = [(one, many - 1 if one == taken else many) for one, many in counted]
    return tuple((one, many) for one, many in fewer if many)


def closed_books(rng, start, pool, begun, most):
    """The notices begun with up to so many of the pool that close the books, or None."""
    held = list(begun)
    numbers = Counter(dict(start.pairs))
    for notice in held:
        count(numbers, notice)
    while any(numbers.values()) and len(held) < len(begun) + most:
        fitting = [notice for notice in pool if numbers[notice.kind] > 0
                   or any(numbers[kind] < 0 for kind in notice.made.kinds)]
        if not fitting:
            return None
        held.append(rng.choice(fitting))
        count(numbers, held[-1])
    return None if any(numbers.values()) else held


def count(numbers, notice):
    numbers[notice.kind] -= 1
    numbers.update(dict(notice.made.pairs))
