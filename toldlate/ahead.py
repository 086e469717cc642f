"""Told ahead: which outcomes must be told ahead for closed books to be believed."""

from toldlate.checks import check_pairs, check_start
from toldlate.errors import NoOutcome, NotEnough
from toldlate.rounds import reached, round_of
from toldlate.webs import Web
from toldlate.words import pair_set


def enough(plan, start, ahead):
    """Whether no kind that is reached grows without the outcomes of ahead."""
    return avoiding(plan, start, ahead) is None


def avoiding(plan, start, ahead):
    """A growing round that no outcome of ahead meets; None if there is none."""
    check_start(plan, start)
    check_pairs(plan, ahead)
    growing = _growing_kinds(plan, reached(plan, start), ahead)
    if len(growing) == 0:
        return None
    return round_of(plan, growing[0], ahead=ahead)


def least_ahead(plan, start, candidates):
    """All least SETs of the candidates that are enough, ascending."""
    check_start(plan, start)
    check_pairs(plan, candidates)
    kinds, pairs = reached(plan, start), pair_set(candidates)
    if len(_growing_kinds(plan, kinds, pairs)) > 0:
        raise NotEnough()
    found = []
    for chosen in _all_sets(pairs):
        # What contains an enough SET is enough as well, but it is not a least one.
        if not any([_contains(chosen, least) for least in found]):
            if len(_growing_kinds(plan, kinds, chosen)) == 0:
                found.append(chosen)
    return _ascending(found)


def cheapest_ahead(plan, start, prices):
    """The least SET whose prices have the least sum, and this sum."""
    pairs = tuple([(kind, name) for kind, name, _ in prices])
    found = least_ahead(plan, start, pairs)
    price_of = {(kind, name): price for kind, name, price in prices}
    sums = [sum([price_of[pair] for pair in chosen]) for chosen in found]
    best = 0
    for place, price in enumerate(sums):
        if price < sums[best]:
            best = place
    return found[best], sums[best]


def needed_round(plan, start, ahead, member):
    """A growing round that this member of ahead alone meets; None if it is not needed."""
    check_start(plan, start)
    check_pairs(plan, ahead)
    kind, name = member
    pairs = [(own, outcome) for own, outcome in ahead]
    if (kind, name) not in pairs:
        raise NoOutcome(kind, name)
    if not enough(plan, start, pairs):
        raise NotEnough()
    return avoiding(plan, start, [pair for pair in pairs if pair != (kind, name)])


def _growing_kinds(plan, kinds, ahead):
    """The kinds, among these that are reached, of sides that are left without ahead."""
    # The ring of a reached kind is reached, so a reached kind grows exactly if
    # one of them has a side.
    return [row[0] for row in Web(plan, ahead).sides() if row[0] in kinds]


def _all_sets(pairs):
    """All SETs of members of this SET, each behind those that it contains."""
    found = [()]
    for pair in pairs:
        found = found + [chosen + (pair,) for chosen in found]
    return found


def _contains(pairs, others):
    """Whether the first SET has all members of the second one."""
    return all([pair in pairs for pair in others])


def _ascending(pair_sets):
    """The tuple of these SETs of pairs, ascending."""
    # A blank stands ahead of all letters, so these texts ascend as the SETs do.
    texts = {" ".join([f"{kind} {name}" for kind, name in pairs]): pairs for pairs in pair_sets}
    return tuple([texts[text] for text in sorted([str(text) for text in texts])])
