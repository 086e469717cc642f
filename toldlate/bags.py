"""Bags: how many jobs there are of each kind."""

from toldlate.errors import BadLine, BelowZero, NoName, Short
from toldlate.words import is_ascending, is_name, is_numeral


class Bag:
    """So many jobs of each kind. A Bag does not change."""

    def __init__(self, pairs=()):
        counts = {}
        for kind, number in pairs:
            if not is_name(kind):
                raise NoName(kind)
            if number < 0:
                raise BelowZero()
            counts[kind] = counts.get(kind, 0) + number
        kinds = sorted([str(kind) for kind in counts if counts[kind] > 0])
        self._counts = {kind: counts[kind] for kind in kinds}
        self._kinds = tuple(kinds)
        self._pairs = tuple([(kind, counts[kind]) for kind in kinds])

    @property
    def pairs(self):
        """The pairs (kind, number) with a number above 0, ascending."""
        return self._pairs

    @property
    def kinds(self):
        """The SET of the kinds of which there is a job."""
        return self._kinds

    @property
    def jobs(self):
        """How many jobs there are, all kinds together."""
        return sum(self._counts.values())

    @property
    def text(self):
        """The BAG TEXT."""
        if self._pairs == ():
            return "-"
        return " ".join([f"{number} {kind}" for kind, number in self._pairs])

    @staticmethod
    def of(text):
        """The Bag with this BAG TEXT."""
        if text == "-":
            return Bag()
        words = text.split(" ")
        numbers, kinds = words[0::2], words[1::2]
        if len(numbers) != len(kinds) or not is_ascending(kinds):
            raise BadLine(0)
        if not all([is_numeral(word) and word != "0" for word in numbers]):
            raise BadLine(0)
        return Bag([(kind, int(word)) for kind, word in zip(kinds, numbers)])

    def within(self, other):
        """Whether this Bag has of no kind more than the other one."""
        return all([number <= other[kind] for kind, number in self._pairs])

    def __len__(self):
        return len(self._pairs)

    def __getitem__(self, at):
        # A value that is no NAME need not even be fit for a key of a dict.
        if not is_name(at):
            return 0
        return self._counts.get(at, 0)

    def __contains__(self, x):
        return self[x] > 0

    def __iter__(self):
        raise TypeError("a Bag is not iterated over")

    def __eq__(self, other):
        return isinstance(other, Bag) and self._pairs == other._pairs

    def __add__(self, other):
        if not isinstance(other, Bag):
            return NotImplemented
        return Bag(self._pairs + other._pairs)

    def __sub__(self, other):
        if not isinstance(other, Bag):
            return NotImplemented
        for kind, number in other._pairs:
            if number > self[kind]:
                raise Short(kind, number - self[kind])
        return Bag([(kind, number - other[kind]) for kind, number in self._pairs])

    def __mul__(self, other):
        if not isinstance(other, int):
            return NotImplemented
        return Bag([(kind, number * other) for kind, number in self._pairs])

    def __rmul__(self, other):
        return self * other
