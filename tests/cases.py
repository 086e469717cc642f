"""What several test files share: checks of errors, wrong values, short plans."""

import unittest

from toldlate import errors
from toldlate.bags import Bag
from toldlate.plans import Outcome, Plan

NO_NAMES = ("", "Page", "PAGE", "abcdefghi", "page1", "a b", " a", "a ", "a\n", "a-b",
            "a_b", "\u00e4", "\u0430", "1", "-", 0, 1, -1, 10 ** 40, True, False, None)


class AlwaysEqual:

    def __eq__(self, other):
        return True


class Case(unittest.TestCase):

    def refused(self, error, values, call, *arguments, **named):
        """Check that the call raises just this error with just these values."""
        with self.assertRaises(errors.LateError) as caught:
            call(*arguments, **named)
        self.assertIs(caught.exception.__class__, error)
        kept = list(vars(caught.exception).values())
        self.assertEqual(kept, list(values))
        # True equals 1, but it must be handed back as it was passed.
        self.assertEqual([value.__class__ for value in kept], [value.__class__ for value in values])

    def equals_nothing_else(self, one, others):
        for other in others:
            with self.subTest(other=other):
                self.assertIs(one == other, False)
                self.assertIs(one != other, True)


def plan_with(**rows):
    """A plan from rows like a_go="1 b" or a_go=("1 b", "c", "d"): a BAG TEXT, then more."""
    made = []
    for word, text in rows.items():
        kind, name = word.split("_")
        bag, *more = (text,) if isinstance(text, str) else text
        made.append((kind, name, Outcome(Bag.of(bag), more)))
    return Plan(made)
