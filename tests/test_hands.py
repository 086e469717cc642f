"""toldlate/hands.py: point [4] of DOC.md, as far as it tells of Hands."""

import itertools
import unittest

from examples import run_examples
from toldlate import errors, hands
from toldlate.errors import BadLine, BelowZero
from toldlate.hands import Hands, hand, last_place, number_at

EXAMPLES = """
    >>> day, late = Hands((1, 0, 0)), Hands((7, 900))
    >>> late < day, (day + late).numbers, (day - late).numbers, (3 * late).numbers, day.places, Hands((0, 0, 4)).numbers, Hands((0, 0)).numbers
    (True, (1, 7, 900), (1, -7, -900), (21, 2700), 3, (4,), ())
    >>> (day - late).plain, (day - late).cut() == day, Hands((2, 3, -1, 5)).cut().text, hand(2).text, hand(0, 5).text, Hands().text, hand(3, 0) == Hands()
    (False, True, '2.3.0.0', '1.0.0', '5', '0', True)
    >>> day - late < day, Hands((1, -3)) > Hands((999,)), Hands((1, -3)) < Hands((1, 0)), Hands.of("1.-3").numbers, Hands.of("0") == Hands()
    (True, True, True, (1, -3), True)
    >>> late - day
    raises BelowZero()
    >>> Hands((0, -1, 5))
    raises BelowZero()
    >>> Hands.of("0.4")
    raises BadLine(number=0)
"""

GREAT = 10 ** 60
PLACES = 3


def is_below_zero(row):
    """Whether the first number that is not 0 is below 0."""
    return next((number for number in row if number != 0), 0) < 0


def filled(row):
    """The row at a fixed length, so that Python's order of lists is its order."""
    return [0] * (PLACES - len(row)) + list(row)


ROWS = [row for size in range(PLACES + 1) for row in itertools.product((-2, -1, 0, 1, 2), repeat=size)]
GOOD = [row for row in ROWS if not is_below_zero(row)]
SOME = [Hands(row) for row in GOOD if not row or row[0] != 0]


class AlwaysEqual:

    def __eq__(self, other):
        return True


class TestExamples(unittest.TestCase):

    def test_examples_of_section_3(self):
        run_examples(self, EXAMPLES, {"Hands": Hands, "hand": hand})


class TestMaking(unittest.TestCase):

    def test_both_are_defined_in_their_file(self):
        self.assertEqual((Hands.__module__, hand.__module__), ("toldlate.hands", "toldlate.hands"))
        for name in ("numbers", "places", "plain", "text", "cut", "of"):
            self.assertIn(name, vars(hands.Hands))

    def test_zeros_in_front_are_left_out(self):
        for row in GOOD:
            numbers = Hands(row).numbers
            self.assertEqual(filled(numbers), filled(row))
            self.assertTrue(numbers == () or numbers[0] > 0)

    def test_zeros_behind_are_kept(self):
        self.assertEqual(Hands((0, 3, 0, 0)).numbers, (3, 0, 0))

    def test_zero_hands(self):
        for zero in (Hands(), Hands(()), Hands([]), Hands((0,)), Hands((0, 0, 0)), Hands(numbers=())):
            self.assertEqual((zero.numbers, zero.places, zero.plain, zero.text), ((), 0, True, "0"))

    def test_below_zero_exactly_if_the_first_number_that_is_not_0_is(self):
        for row in ROWS:
            if is_below_zero(row):
                with self.assertRaises(BelowZero) as caught:
                    Hands(row)
                self.assertIs(caught.exception.__class__, BelowZero)
            else:
                Hands(row)

    def test_numbers_behind_the_first_one_may_be_below_zero(self):
        self.assertEqual(Hands((0, 1, -7, -900)).numbers, (1, -7, -900))

    def test_great_numbers(self):
        row = (GREAT,) + (-GREAT,) * 11
        self.assertEqual(Hands(row).numbers, row)
        self.assertEqual((Hands(row) * GREAT).numbers[0], 10 ** 120)
        self.assertEqual((Hands(row) + Hands(row)).numbers, (2 * GREAT,) + (-2 * GREAT,) * 11)
        with self.assertRaises(BelowZero):
            Hands((0, -GREAT, GREAT))

    def test_lists_for_tuples(self):
        self.assertEqual(repr(Hands([0, 1, 2]).numbers), "(1, 2)")
        self.assertEqual(repr(Hands(numbers=[1, 2]).numbers), "(1, 2)")

    def test_what_was_passed_is_copied_and_not_changed(self):
        numbers = [0, 1, -2]
        made = Hands(numbers)
        self.assertEqual(numbers, [0, 1, -2])
        numbers[1] = 9
        numbers.append(4)
        self.assertEqual((made.numbers, made.text), ((1, -2), "1.-2"))

    def test_properties_have_no_setters(self):
        made = Hands((1, 2))
        for name in ("numbers", "places", "plain", "text"):
            with self.assertRaises(AttributeError):
                setattr(made, name, ())
        self.assertEqual(made.numbers, (1, 2))


class TestAsking(unittest.TestCase):

    def test_places(self):
        for row, places in (((), 0), ((4,), 1), ((0, 4), 1), ((4, 0), 2), ((1, -2, 3), 3), ((1,) * 12, 12)):
            self.assertEqual(Hands(row).places, places)

    def test_plain(self):
        for own in SOME:
            self.assertIs(own.plain, all(number >= 0 for number in own.numbers))

    def test_cut(self):
        for row, expected in (
                ((), ()), ((1, 2, 3), (1, 2, 3)), ((1, -1), (1, 0)), ((1, 2, -1), (1, 2, 0)),
                ((1, 0, -1, 5), (1, 0, 0, 0)), ((2, -3, 4, -1), (2, 0, 0, 0))):
            self.assertEqual(Hands(row).cut().numbers, expected)

    def test_cut_is_the_least_plain_one_that_is_not_less(self):
        plain = [Hands(row) for row in itertools.product(range(4), repeat=PLACES)]
        for own in SOME:
            least = own.cut()
            self.assertTrue(least.plain and least >= own)
            self.assertFalse([other for other in plain if own <= other < least])

    def test_cut_changes_nothing(self):
        own = Hands((1, -1))
        own.cut()
        self.assertEqual(own.numbers, (1, -1))


class TestComparing(unittest.TestCase):

    def test_all_comparisons_of_rows_of_like_and_unlike_length(self):
        for one, other in itertools.product(SOME, SOME):
            left, right = filled(one.numbers), filled(other.numbers)
            self.assertIs(one < other, left < right)
            self.assertIs(one <= other, left <= right)
            self.assertIs(one > other, left > right)
            self.assertIs(one >= other, left >= right)
            self.assertIs(one == other, left == right)
            self.assertIs(one != other, left != right)

    def test_a_longer_row_is_greater_whatever_stands_behind(self):
        self.assertTrue(Hands((1, -GREAT)) > Hands((GREAT,)))
        self.assertTrue(Hands((1, -GREAT)) < Hands((1, -GREAT + 1)))
        self.assertTrue(Hands() < Hands((1,)))

    def test_hands_equal_nothing_else(self):
        one = Hands((1, 2))
        for other in ((1, 2), [1, 2], "1.2", 12, None, True, AlwaysEqual()):
            self.assertIs(one == other, False)
            self.assertIs(one != other, True)
        for other in ((), [], 0, "0", None, False):
            self.assertIs(Hands() == other, False)
            self.assertIs(Hands() != other, True)

    def test_only_hands_have_an_order_beside_hands(self):
        for wrong in (lambda: Hands() < 1, lambda: Hands() <= (), lambda: Hands() > None, lambda: 1 >= Hands()):
            with self.assertRaises(TypeError):
                wrong()


class TestReckoning(unittest.TestCase):

    def test_plus(self):
        for one, other in itertools.product(SOME, SOME):
            pairs = zip(filled(one.numbers), filled(other.numbers))
            self.assertEqual(filled((one + other).numbers), [left + right for left, right in pairs])

    def test_minus_raises_exactly_if_the_first_is_less(self):
        for one, other in itertools.product(SOME, SOME):
            left, right = filled(one.numbers), filled(other.numbers)
            if left < right:
                with self.assertRaises(BelowZero):
                    one - other
            else:
                expected = [first - second for first, second in zip(left, right)]
                self.assertEqual(filled((one - other).numbers), expected)

    def test_minus_leaves_out_zeros_in_front(self):
        self.assertEqual((Hands((2, 3, 4)) - Hands((2, 3, 0))).numbers, (4,))
        self.assertEqual((Hands((2, 3)) - Hands((2, 3))).numbers, ())

    def test_times(self):
        for own, number in itertools.product(SOME, (0, 1, 2, 5, 10 ** 30)):
            expected = [number * one for one in filled(own.numbers)]
            self.assertEqual(filled((own * number).numbers), expected)
            self.assertEqual(filled((number * own).numbers), expected)
        self.assertEqual((0 * Hands((1, -2))).numbers, ())

    def test_operators_change_no_hands(self):
        one, other = Hands((1, -2)), Hands((3,))
        one + other, one - other, 2 * one, one * 2, one < other, one == other
        with self.assertRaises(BelowZero):
            other - one
        self.assertEqual((one.numbers, other.numbers), ((1, -2), (3,)))

    def test_in_place_signs_leave_the_old_hands_as_they_were(self):
        old = name = Hands((1, 0))
        name += Hands((5,))
        older = name
        name -= Hands((6,))
        oldest = name
        name *= 2
        self.assertEqual((old.text, older.text, oldest.text, name.text), ("1.0", "1.5", "1.-1", "2.-2"))

    def test_other_operands_are_no_hands(self):
        for wrong in (lambda: Hands() + 1, lambda: Hands() - (), lambda: Hands() * Hands(), lambda: "a" * Hands()):
            with self.assertRaises(TypeError):
                wrong()


class TestHand(unittest.TestCase):

    def test_hand(self):
        for place, count, expected in (
                (0, 1, (1,)), (0, 7, (7,)), (1, 1, (1, 0)), (3, 2, (2, 0, 0, 0)),
                (11, GREAT, (GREAT,) + (0,) * 11)):
            self.assertEqual(hand(place, count).numbers, expected)
            self.assertEqual(hand(place=place, count=count).numbers, expected)

    def test_count_is_1_if_it_is_not_told(self):
        self.assertEqual((hand(0).numbers, hand(2).numbers), ((1,), (1, 0, 0)))

    def test_count_0_gives_zero_hands(self):
        for place in range(13):
            self.assertEqual(hand(place, 0), Hands())


class TestTexts(unittest.TestCase):

    def test_text(self):
        for row, text in (((), "0"), ((0, 0), "0"), ((5,), "5"), ((1, 0, -20), "1.0.-20"), ((0, 10, 0), "10.0")):
            self.assertEqual(Hands(row).text, text)

    def test_each_text_is_read_back(self):
        great = [Hands((GREAT, -GREAT, 0, GREAT - 1)), Hands((10 ** 70,)), Hands((1,) + (0,) * 11)]
        for own in SOME + great:
            self.assertEqual(Hands.of(own.text).numbers, own.numbers)
            self.assertEqual(Hands.of(text=own.text).text, own.text)

    def test_wrong_texts(self):
        for text in (
                "", ".", "..", ".1", "1.", "1..2", ".1.2", "1.2.", "01", "00", "1.02", "1.00", "0.4", "0.0",
                "0.-1", "-0", "1.-0", "1.-01", "-1", "-1.2", "1.--2", "--1", "1.-", "-", "-.1", "1-2", "1.2-",
                " ", " 1", "1 ", "1 .2", "1. 2", "1.- 2", "0 ", " 0", "+1", "1.+2", "1,2", "a", "1.a", "1_0",
                "1e3", "0x1", "1.2\n", "\n1", "1\n2", "~", "\u0661", "1.\u00b2", "1.\u22121"):
            with self.subTest(text=text):
                with self.assertRaises(BadLine) as caught:
                    Hands.of(text)
                self.assertEqual(vars(caught.exception), {"number": 0})

    def test_short_texts_are_read_exactly_if_hands_tell_them(self):
        told = {own.text for own in SOME}
        for size in range(7):
            for letters in itertools.product("012.-", repeat=size):
                self.check_one("".join(letters), told)

    def check_one(self, text, told):
        try:
            self.assertEqual(Hands.of(text).text, text)
        except BadLine as error:
            self.assertEqual(error.number, 0)
            self.assertNotIn(text, told)

    def test_numbers_and_places_from_the_right(self):
        for own in SOME:
            numbers = own.numbers[::-1] + (0, 0)
            self.assertEqual([number_at(own, place) for place in range(len(numbers))], list(numbers))
            found = [place for place, number in enumerate(numbers) if number != 0]
            self.assertEqual(last_place(own), found[0] if found else 0)

    def test_a_wrong_text_is_no_other_error(self):
        with self.assertRaises(errors.LateError) as caught:
            Hands.of("-1")
        self.assertIs(caught.exception.__class__, BadLine)


if __name__ == "__main__":
    unittest.main()
