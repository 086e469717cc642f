"""Hands: rows of whole numbers that are read from the left, like a date."""

from toldlate.errors import BadLine, BelowZero
from toldlate.words import is_numeral


class Hands:
    """A row without zeros in front. Hands do not change."""

    def __init__(self, numbers=()):
        row = _without_front_zeros(numbers)
        if row != () and row[0] < 0:
            raise BelowZero()
        self._row = row

    @property
    def numbers(self):
        """The tuple of the numbers, the first one above 0."""
        return self._row

    @property
    def places(self):
        """How many numbers there are."""
        return len(self._row)

    @property
    def plain(self):
        """Whether no number is below 0."""
        return all([number >= 0 for number in self._row])

    @property
    def text(self):
        """The numbers with points between, "0" if there are none."""
        if self._row == ():
            return "0"
        return ".".join([str(number) for number in self._row])

    @staticmethod
    def of(text):
        """The Hands with this text."""
        if text == "0":
            return Hands()
        words = text.split(".")
        if not all([_is_signed_numeral(word) for word in words]):
            raise BadLine(0)
        numbers = [int(word) for word in words]
        if numbers[0] <= 0:
            raise BadLine(0)
        return Hands(numbers)

    def cut(self):
        """The least plain Hands that are not less than these."""
        row = []
        below = False
        for number in self._row:
            below = below or number < 0
            row.append(0 if below else number)
        return Hands(row)

    # No row has a zero in front and each begins above 0, so of two rows of
    # unlike length the longer one is the greater one: the orders need no zeros.

    def __eq__(self, other):
        if not isinstance(other, Hands):
            return False
        return (len(self._row), self._row) == (len(other._row), other._row)

    def __lt__(self, other):
        if not isinstance(other, Hands):
            return NotImplemented
        return (len(self._row), self._row) < (len(other._row), other._row)

    def __le__(self, other):
        if not isinstance(other, Hands):
            return NotImplemented
        return (len(self._row), self._row) <= (len(other._row), other._row)

    def __gt__(self, other):
        if not isinstance(other, Hands):
            return NotImplemented
        return (len(self._row), self._row) > (len(other._row), other._row)

    def __ge__(self, other):
        if not isinstance(other, Hands):
            return NotImplemented
        return (len(self._row), self._row) >= (len(other._row), other._row)

    def __add__(self, other):
        if not isinstance(other, Hands):
            return NotImplemented
        return Hands([one + two for one, two in _aligned(self._row, other._row)])

    def __sub__(self, other):
        if not isinstance(other, Hands):
            return NotImplemented
        # The first place at which both differ decides which one is less; it is
        # the first number of the difference, too, so Hands() raises BelowZero.
        return Hands([one - two for one, two in _aligned(self._row, other._row)])

    def __mul__(self, other):
        if not isinstance(other, int):
            return NotImplemented
        return Hands([number * other for number in self._row])

    def __rmul__(self, other):
        return self * other


def hand(place, count=1):
    """The Hands that have count at this place and 0 at all others."""
    return Hands([count] + [0] * place)


def number_at(hands, place):
    """The number of some Hands at a place, 0 ahead of the first one."""
    if place >= hands.places:
        return 0
    return hands.numbers[hands.places - 1 - place]


def last_place(hands):
    """The place of the last number that is not 0, counted from the right."""
    place = 0
    while place < hands.places and number_at(hands, place) == 0:
        place = place + 1
    return place


def _without_front_zeros(numbers):
    """The tuple of the numbers from the first one on that is not 0."""
    row = tuple(numbers)
    first = 0
    while first < len(row) and row[first] == 0:
        first = first + 1
    return row[first:]


def _aligned(one, two):
    """The pairs of numbers that stand at the same place, from the left."""
    places = max(len(one), len(two))
    return list(zip(_filled(one, places), _filled(two, places)))


def _filled(row, places):
    """The row as a list, with zeros in front up to so many places."""
    return [0] * (places - len(row)) + list(row)


def _is_signed_numeral(word):
    """Whether a word is a number of Hands, below 0 or not."""
    if word.startswith("-"):
        return word != "-0" and is_numeral(word[1:])
    return is_numeral(word)
