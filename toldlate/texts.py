"""Texts: outcomes, plans and notices, written in lines and read back."""

from toldlate.bags import Bag
from toldlate.errors import BadLine
from toldlate.plans import Notice, Outcome, Plan
from toldlate.words import is_ascending, is_name, is_numeral


def outcome_text(outcome):
    """The OUTCOME TEXT of an Outcome."""
    words = [outcome.makes.text]
    if len(outcome.more) > 0:
        words = words + ["any"] + list(outcome.more)
    if outcome.cost != 0:
        words = words + ["cost", str(outcome.cost)]
    return " ".join(words)


def plan_text(plan):
    """The PLAN TEXT of a Plan."""
    return _joined([f"{kind} {name}: {outcome_text(outcome)}" for kind, name, outcome in plan.rows])


def notices_text(notices):
    """The NOTICES TEXT of a tuple of notices."""
    return _joined([f"{notice.kind} {notice.outcome}: {notice.made.text}" for notice in notices])


def outcome_of(text):
    """The Outcome with this OUTCOME TEXT."""
    words, cost = _without_cost(text.split(" "))
    end = _end_of_bag(words)
    more = words[end + 1:]
    if end < len(words) and (words[end] != "any" or len(more) == 0 or not is_ascending(more)):
        raise BadLine(0)
    return Outcome(Bag.of(" ".join(words[:end])), more, cost)


def plan_of(text):
    """The Plan with this PLAN TEXT."""
    table = {}
    for number, line in enumerate(_lines(text)):
        try:
            kind, name, rest = _parts(line)
            outcome = outcome_of(rest)
        except BadLine:
            raise BadLine(number) from None
        if (kind, name) in table:
            raise BadLine(number)
        table[(kind, name)] = outcome
    return Plan([(kind, name, table[(kind, name)]) for kind, name in table])


def notices_of(text):
    """The tuple of the Notices with this NOTICES TEXT."""
    found = []
    for number, line in enumerate(_lines(text)):
        try:
            kind, name, rest = _parts(line)
            found.append(Notice(kind, name, Bag.of(rest)))
        except BadLine:
            raise BadLine(number) from None
    return tuple(found)


def _joined(lines):
    """The text of these lines, "-" if there are none."""
    return "-" if len(lines) == 0 else "\n".join(lines)


def _lines(text):
    """The lines of a text, none if it is "-"."""
    return [] if text == "-" else text.split("\n")


def _parts(line):
    """The kind, the name and the rest of a line."""
    head, colon, rest = line.partition(": ")
    words = head.split(" ")
    if colon == "" or len(words) != 2 or not is_name(words[0]) or not is_name(words[1]):
        raise BadLine(0)
    return words[0], words[1], rest


def _without_cost(words):
    """The words of an OUTCOME TEXT ahead of its cost, and the cost."""
    # Kinds can be called "cost", but what ends with a number can only be a cost.
    if len(words) < 2 or words[-2] != "cost" or words[-1] == "0" or not is_numeral(words[-1]):
        return words, 0
    return words[:-2], int(words[-1])


def _end_of_bag(words):
    """The place of the word behind the BAG TEXT with which these words begin."""
    if words[:1] == ["-"]:
        return 1
    # Kinds can be called "any", so the BAG TEXT ends where no number stands.
    end = 0
    while end < len(words) and is_numeral(words[end]):
        end = end + 2
    return end
