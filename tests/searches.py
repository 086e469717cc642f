"""More plans by chance, and slow answers about crowds, lengths and costs."""

import itertools
from collections import Counter

from oracles import key, leading, made_by, random_bag, random_plan, ring_by, sides_by, without
from toldlate.bags import Bag
from toldlate.hands import Hands, hand
from toldlate.plans import Outcome, Plan


def with_costs(rng, plan, costs=(0, 0, 0, 1, 2)):
    return Plan([(kind, name, Outcome(outcome.makes, outcome.more, rng.choice(costs)))
                 for kind, name, outcome in plan.rows])


def costly_plan(rng, most_kinds=4, most_outcomes=7):
    return with_costs(rng, random_plan(rng, most_kinds, most_outcomes))


def layered_plan(rng, most_kinds=5, any_chance=0.2, costs=(0, 0, 1, 2)):
    """A plan without heavy outcomes: most outcomes make kinds further down, some hand a job on."""
    kinds = "abcdefgh"[:rng.randint(1, most_kinds)]
    rows = {}
    for at, kind in enumerate(kinds):
        for name in "pqr"[:rng.randint(1, 3)]:
            below = kinds[at + 1:]
            more = tuple(other for other in below if rng.random() < any_chance)
            rows[kind, name] = Outcome(random_bag(rng, below) if below else Bag(), more, rng.choice(costs))
        rows[kind, "z"] = Outcome()
    if len(kinds) > 1 and rng.random() < 0.5:
        at = rng.randrange(len(kinds) - 1)
        rows[kinds[at], "on"] = Outcome(Bag(((kinds[at + 1], 1),)))
        rows[kinds[at + 1], "back"] = Outcome(Bag(((kinds[at], 1),)))
    plan = Plan([(kind, name, outcome) for (kind, name), outcome in rows.items()])
    for kind, name in sorted(heavy_by(plan)):
        plan = plan.put(kind, name, Outcome())
    return plan


def random_start(rng, plan, most=3):
    return Bag([(rng.choice(plan.kinds), 1) for _ in range(rng.randint(0, most))])


def reached_by(plan, start):
    found = leading(plan)
    return set(start.kinds) | {two for one, two in found if one in start.kinds}


def stays_by(plan, kind, outcome):
    return bool(made_by(outcome) & ring_by(leading(plan), plan, kind))


def heavy_by(plan):
    """The set of the heavy outcomes, by the words of [2]."""
    return sides_by(plan) | {(kind, name) for kind, name, outcome in plan.rows
                             if outcome.cost > 0 and stays_by(plan, kind, outcome)}


def random_hands(rng, most_places=3, most_number=3):
    return Hands([rng.randint(0, most_number) for _ in range(rng.randint(0, most_places))])


def highest(clock, outcome, many):
    """The Hands of all that an end makes and costs, if so many are made where it is ANY."""
    found = hand(0, outcome.cost)
    for kind, number in outcome.makes.pairs:
        found = found + clock[kind] * number
    for kind in outcome.more:
        found = found + clock[kind] * many
    return found


def steps_from(plan, tops):
    """All notices with ANY numbers out of tops, by their kinds."""
    found = {kind: [] for kind in plan.kinds}
    for kind, name, outcome in plan.rows:
        for numbers in itertools.product(tops, repeat=len(outcome.more)):
            found[kind].append(plan.notice(kind, name, Bag(tuple(zip(outcome.more, numbers)))))
    return found


def end_of(alive, notice):
    return alive - Bag(((notice.kind, 1),)) + notice.made


def greatest_crowd(plan, start, most):
    """The greatest number of jobs that live at one moment, or most if it is not less."""
    steps = steps_from(plan, (0, most))
    seen, waiting = {start.pairs}, [start]
    found = start.jobs
    while waiting and found < most:
        alive = waiting.pop()
        for bag in [end_of(alive, notice) for kind in alive.kinds for notice in steps[kind]]:
            found = max(found, bag.jobs)
            if bag.pairs not in seen:
                seen.add(bag.pairs)
                waiting.append(bag)
    return min(found, most)


def greatest_length(plan, start, most, most_jobs):
    """The greatest number of ends of a run with few jobs at once, or most if it is not less."""
    steps = steps_from(plan, (0, most))
    bags, length = {start.pairs: start}, 0
    while bags and length < most:
        after = [end_of(alive, notice) for alive in bags.values()
                 for kind in alive.kinds for notice in steps[kind]]
        bags = {bag.pairs: bag for bag in after if bag.jobs <= most_jobs}
        length = length + 1 if bags else length
    return length


def greatest_cost(plan, start, most, most_jobs):
    """The greatest sum of costs of a run with few jobs at once, or most if it is not less."""
    return cost_behind(plan, start, (), most, most_jobs)


def counted(notices):
    return tuple(sorted(Counter(key(notice) for notice in notices).items()))


def crowd_behind(plan, start, held, most):
    """The most jobs that live at a moment at which the ends held took place, or most."""
    found = states(plan, start, held, 0, most, (0, 1, 4))
    return max([0] + [bag.jobs for bag, missing, _ in found if not missing])


def cost_behind(plan, start, held, most, most_jobs):
    """The greatest sum of the costs of the ends that are not held, or most if it is not less."""
    found = states(plan, start, held, most, most_jobs, (0, 1, max(2, most)))
    return max([0] + [cost for _, missing, cost in found if not missing])


def states(plan, start, held, most_cost, most_jobs, tops):
    """All triples (what lives, what of the notices held did not end, cost of the other ends)."""
    steps = steps_from(plan, tops)
    first = (start.pairs, counted(held), 0)
    seen, waiting = {first}, [first]
    while waiting:
        pairs, missing, cost = waiting.pop()
        alive = Bag(pairs)
        fresh = [(end_of(alive, notice), missing, min(most_cost, cost + plan[notice.kind, notice.outcome].cost))
                 for kind in alive.kinds for notice in steps[kind]]
        for (kind, name, made), _ in missing:
            if kind in alive:
                fresh.append((alive - Bag(((kind, 1),)) + Bag(made), without(missing, (kind, name, made)), cost))
        for bag, lacking, paid in fresh:
            state = (bag.pairs, lacking, paid)
            if bag.jobs <= most_jobs and state not in seen:
                seen.add(state)
                waiting.append(state)
    return [(Bag(pairs), missing, cost) for pairs, missing, cost in seen]


def random_run(rng, plan, start, most, top=2):
    """The notices of a run by chance with at most so many ends."""
    steps, alive, found = steps_from(plan, range(top + 1)), start, []
    for _ in range(rng.randint(0, most)):
        fitting = [notice for kind in alive.kinds for notice in steps[kind]]
        if not fitting:
            break
        found.append(rng.choice(fitting))
        alive = end_of(alive, found[-1])
    return found
