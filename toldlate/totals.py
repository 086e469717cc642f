"""Totals: the most that can come of one job of each kind, None if there is no most.

Jobs do not disturb each other, so the most that can come of a Bag is the sum of
what can come of its jobs. In a ring each kind can become each other one.
"""


def total(table, bag):
    """The most that can come of a Bag, by a table of its kinds."""
    if None in [table[kind] for kind in bag.kinds]:
        return None
    return sum([number * table[kind] for kind, number in bag.pairs])


def crowds(web):
    """Of each kind how many jobs can live at one moment."""
    table = {}
    for ring in web.rings():
        rows = _rows_of_ring(web, ring)
        if any([len(outcome.more) > 0 or web.is_side(kind, outcome) for kind, _, outcome in rows]):
            most = None
        else:
            most = _most([1] + [total(table, outcome.makes) for _, _, outcome in _leaving(web, rows)])
        table.update({kind: most for kind in ring})
    return table


def lengths(web):
    """Of each kind how many ends there can be."""
    table = {}
    for ring in web.rings():
        rows = _rows_of_ring(web, ring)
        if ring[0] in web.leads(ring[0]):
            most = None
        else:
            most = _most([0] + [_with_all_behind(table, outcome, 1) for _, _, outcome in rows])
        table.update({kind: most for kind in ring})
    return table


def dearests(web):
    """Of each kind what all ends together can cost."""
    table = {}
    again = dear_again(web)
    for ring in web.rings():
        rows = _leaving(web, _rows_of_ring(web, ring))
        if ring[0] in again:
            most = None
        else:
            most = _most([0] + [_with_all_behind(table, outcome, outcome.cost) for _, _, outcome in rows])
        table.update({kind: most for kind in ring})
    return table


def dear_again(web):
    """The kinds of which a job can come again by ends that cost more than 0."""
    rows = [row for ring in web.rings() for row in _rows_of_ring(web, ring)]
    paid = [kind for kind, _, outcome in rows if outcome.cost > 0]
    costly = [row[0] for row in rows if any([kind in paid for kind in web.behind([row[0]])])]
    dear = [kind for kind, _, outcome in rows
            if web.stays(kind, outcome) and _costs_beside(costly, outcome)]
    return [kind for other in dear for kind in web.ring(other)]


def ways_to_crowd(web, table, start):
    """How often each outcome, a pair (kind, name), ends until the crowd lives.

    The table is that of crowds, with a number for each kind of the start.
    """
    alive = {kind: start[kind] for kind in table}
    counts = {}
    reached = web.behind(start.kinds)
    for ring in reversed(list(web.rings())):
        # Where there is no more than 1 to gain, no job of the ring need end.
        if ring[0] in reached and table[ring[0]] > 1:
            goal, name, outcome = _fullest(web, table, ring)
            for kind in ring:
                for pair in [(own, step) for own, step, _ in web.path(kind, goal)] + [(goal, name)]:
                    counts[pair] = counts.get(pair, 0) + alive[kind]
            many = sum([alive[kind] for kind in ring])
            for made, number in outcome.makes.pairs:
                alive[made] = alive[made] + many * number
    return {pair: counts[pair] for pair in counts if counts[pair] > 0}


def _rows_of_ring(web, ring):
    """The rows of the outcomes of all kinds of a ring."""
    return [row for kind in ring for row in web.rows_of(kind)]


def _leaving(web, rows):
    """Those of the rows whose outcomes do not stay."""
    return [row for row in rows if not web.stays(row[0], row[2])]


def _fullest(web, table, ring):
    """The row of an outcome that leaves a ring and makes its crowd."""
    rows = _leaving(web, _rows_of_ring(web, ring))
    return [row for row in rows if total(table, row[2].makes) == table[ring[0]]][0]


def _with_all_behind(table, outcome, own):
    """The own number of an end by this outcome, and the most that is behind it."""
    if any([table[kind] != 0 for kind in outcome.more]):
        return None
    behind = total(table, outcome.makes)
    return None if behind is None else own + behind


def _costs_beside(costly, outcome):
    """Whether an outcome that stays can cost more than 0, what goes on its round left out."""
    if outcome.cost > 0 or any([kind in costly for kind in outcome.more]):
        return True
    # One of the costly jobs goes on the round: with one kind of a ring all are costly.
    return sum([number for kind, number in outcome.makes.pairs if kind in costly]) > 1


def _most(numbers):
    """The greatest of the numbers, None if one of them is None."""
    if None in numbers:
        return None
    return max([int(number) for number in numbers])
