"""Orders: the notices of a run, put into an order in which they can end."""

from toldlate.words import name_set


def balance(start, notices):
    """Of each kind what is in the start and was made, less what ended.

    A tuple of pairs (kind, number), ascending, without the numbers 0.
    """
    counts = dict(start.pairs)
    for notice in notices:
        _end(counts, notice)
    return tuple([(kind, counts[kind]) for kind in name_set(counts) if counts[kind] != 0])


def in_order(start, notices):
    """An order, as a list, of notices that are those of a run in some order."""
    order, waiting = _played(dict(start.pairs), list(notices))
    while waiting:
        order, waiting = _with_round(start, order, waiting)
        played, waiting = _played(dict(balance(start, order)), waiting)
        order = order + played
    return order


def _end(counts, notice):
    """Take the job that ended out of the counts, and put in what it made."""
    counts[notice.kind] = counts.get(notice.kind, 0) - 1
    for kind, number in notice.made.pairs:
        counts[kind] = counts.get(kind, 0) + number


def _played(counts, waiting):
    """As many as can end one behind the other, and those that then wait."""
    played = []
    while True:
        still = []
        for notice in waiting:
            if counts.get(notice.kind, 0) > 0:
                _end(counts, notice)
                played.append(notice)
            else:
                still.append(notice)
        if len(still) == len(waiting):
            return played, still
        waiting = still


def _with_round(start, order, waiting):
    """The order with a round of what waits put in, and what waits then.

    Of no kind that waits a job lives any more, and what waits makes as many of
    each as it ends. So among what waits there are rounds, and since all kinds
    were entered, one of them begins at a kind of which a job lived once. Put in
    at that moment it hands this job back, and all behind it stays as it was.
    """
    moments = _first_moments(start, order)
    rounds = {kind: _round_from(kind, waiting) for kind in moments}
    first = [kind for kind in moments if rounds[kind] is not None][0]
    moment, places = moments[first], rounds[first]
    still = [notice for place, notice in enumerate(waiting) if place not in places]
    return order[:moment] + [waiting[place] for place in places] + order[moment:], still


def _first_moments(start, order):
    """Of each kind that ever lives behind how many ends its first job lives."""
    moments = {kind: 0 for kind in start.kinds}
    for place, notice in enumerate(order):
        for kind in notice.made.kinds:
            if kind not in moments:
                moments[kind] = place + 1
    return moments


def _round_from(kind, waiting):
    """Places of notices that hand on a job until it is of its kind again, or None."""
    found = {kind: ()}
    kinds = [kind]
    while kinds:
        here = kinds.pop(0)
        for place, notice in enumerate(waiting):
            if notice.kind == here and kind in notice.made:
                return found[here] + (place,)
            if notice.kind == here:
                fresh = [made for made in notice.made.kinds if made not in found]
                found.update({made: found[here] + (place,) for made in fresh})
                kinds.extend(fresh)
    return None
