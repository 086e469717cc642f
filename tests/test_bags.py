"""toldlate/bags.py: point [4] of DOC.md, as far as it tells of Bags."""

import itertools
import unittest

from examples import run_examples
from toldlate import bags, errors
from toldlate.bags import Bag
from toldlate.errors import BadLine, BelowZero, NoName, Short

EXAMPLES = """
    >>> bag = Bag((("page", 2), ("note", 1), ("page", 1), ("index", 0)))
    >>> bag.pairs, bag.kinds, len(bag), bag.jobs, bag["page"], bag["index"], "index" in bag, bag.text
    ((('note', 1), ('page', 3)), ('note', 'page'), 2, 4, 3, 0, False, '1 note 3 page')
    >>> (bag + Bag.of("2 index")).text, (2 * bag).text, (bag * 0).text, (bag - Bag.of("1 page")).text, Bag.of("2 page").within(bag), Bag() == Bag.of("-")
    ('2 index 1 note 3 page', '2 note 6 page', '-', '1 note 2 page', True, True)
    >>> bag - Bag.of("1 index 5 page")
    raises Short(kind='index', lacking=1)
    >>> Bag((("page", -1), ("Page", 1)))
    raises BelowZero()
    >>> Bag.of("3 page 1 note")
    raises BadLine(number=0)
"""

NO_NAMES = ("", "Page", "PAGE", "abcdefghi", "page1", "a b", " a", "a ", "a\n", "a-b",
            "a_b", "\u00e4", "\u0430", "1", "-", 0, 1, -1, 10 ** 40, True, False, None)

SMALL = [Bag(pairs) for pairs in itertools.product(
    *[[(kind, number) for number in range(3)] for kind in ("a", "b", "c")])]


class AlwaysEqual:

    def __eq__(self, other):
        return True


class TestExamples(unittest.TestCase):

    def test_examples_of_section_3(self):
        run_examples(self, EXAMPLES, {"Bag": Bag})


class TestMaking(unittest.TestCase):

    def test_it_is_defined_in_its_file(self):
        self.assertEqual(Bag.__module__, "toldlate.bags")
        for name in ("pairs", "kinds", "jobs", "text", "within", "of"):
            self.assertIn(name, vars(bags.Bag))

    def test_no_pairs(self):
        for bag in (Bag(), Bag(()), Bag([]), Bag(pairs=()), Bag((("a", 0),))):
            self.assertEqual((bag.pairs, bag.kinds, bag.jobs, len(bag), bag.text),
                             ((), (), 0, 0, "-"))

    def test_pairs_in_any_order_give_the_same_bag(self):
        pairs = [("page", 2), ("a", 1), ("note", 5), ("abcdefgh", 3)]
        for order in itertools.permutations(pairs):
            self.assertEqual(Bag(order).pairs, (("a", 1), ("abcdefgh", 3), ("note", 5), ("page", 2)))

    def test_a_kind_several_times_is_added(self):
        bag = Bag((("b", 1), ("a", 0), ("b", 2), ("a", 4), ("b", 0)))
        self.assertEqual(bag.pairs, (("a", 4), ("b", 3)))

    def test_zero_is_no_job(self):
        bag = Bag((("b", 0), ("a", 1), ("c", 0), ("c", 0)))
        self.assertEqual((bag.pairs, bag.kinds, len(bag), "b" in bag), ((("a", 1),), ("a",), 1, False))

    def test_great_numbers(self):
        great = 10 ** 30
        bag = Bag((("a", great), ("b", great - 1), ("a", great)))
        self.assertEqual((bag["a"], bag["b"], bag.jobs), (2 * great, great - 1, 3 * great - 1))
        self.assertEqual(bag.text, f"{2 * great} a {great - 1} b")
        self.assertEqual((bag * great)["a"], 2 * great * great)

    def test_results_are_tuples(self):
        bag = Bag([["b", 1], ["a", 2]])
        self.assertEqual(repr(bag.pairs), "(('a', 2), ('b', 1))")
        self.assertEqual(repr(bag.kinds), "('a', 'b')")

    def test_lists_for_tuples(self):
        pairs = (("b", 1), ("a", 2))
        for made in (list(pairs), [list(pair) for pair in pairs], tuple(list(pair) for pair in pairs)):
            self.assertEqual(Bag(made), Bag(pairs))
            self.assertEqual(Bag(pairs=made), Bag(pairs))

    def test_what_was_passed_is_copied_and_not_changed(self):
        pairs = [["b", 1], ["a", 2], ["b", 3]]
        bag = Bag(pairs)
        self.assertEqual(pairs, [["b", 1], ["a", 2], ["b", 3]])
        pairs[0][1] = 9
        pairs[1][0] = "z"
        pairs.append(["c", 1])
        self.assertEqual((bag.pairs, bag.jobs, bag["z"]), ((("a", 2), ("b", 4)), 6, 0))

    def test_properties_have_no_setters(self):
        bag = Bag.of("1 a")
        for name in ("pairs", "kinds", "jobs", "text"):
            with self.assertRaises(AttributeError):
                setattr(bag, name, ())
        self.assertEqual(bag, Bag.of("1 a"))


class TestRefusing(unittest.TestCase):

    def refused(self, error, pairs):
        with self.assertRaises(errors.LateError) as caught:
            Bag(pairs)
        self.assertIs(caught.exception.__class__, error)
        return caught.exception

    def test_what_is_no_name(self):
        for value in NO_NAMES:
            with self.subTest(value=value):
                self.assertIs(self.refused(NoName, ((value, 1),)).value, value)
                self.assertIs(self.refused(NoName, [[value, 0]]).value, value)

    def test_all_that_are_names(self):
        for kind in ("a", "z", "az", "abcdefgh", "zzzzzzzz"):
            self.assertEqual(Bag(((kind, 1),)).kinds, (kind,))

    def test_below_zero(self):
        self.refused(BelowZero, (("a", -1),))
        self.refused(BelowZero, (("a", -10 ** 30),))
        self.refused(BelowZero, (("a", 5), ("a", -1)))

    def test_the_name_is_checked_first_in_a_pair(self):
        self.assertEqual(self.refused(NoName, (("A", -1),)).value, "A")

    def test_the_first_pair_that_fails_decides(self):
        self.refused(BelowZero, (("a", 1), ("b", -1), ("B", 1)))
        self.assertEqual(self.refused(NoName, (("a", 1), ("B", 1), ("b", -1))).value, "B")
        self.assertEqual(self.refused(NoName, (("C", 1), ("B", 1))).value, "C")


class TestAsking(unittest.TestCase):

    def test_how_many_of_a_kind(self):
        bag = Bag.of("2 a 7 note")
        self.assertEqual((bag["a"], bag["note"], bag["b"], bag["notes"]), (2, 7, 0, 0))
        self.assertEqual(("a" in bag, "note" in bag, "b" in bag, "n" in bag), (True, True, False, False))

    def test_what_is_no_name_is_not_there(self):
        bag = Bag.of("1 a 2 b")
        for value in NO_NAMES + ((), ("a", 1), ["a"], [], {}):
            with self.subTest(value=value):
                self.assertEqual(bag[value], 0)
                self.assertIs(value in bag, False)
                self.assertIs(value not in bag, True)

    def test_it_is_not_iterated_over(self):
        for bag in (Bag(), Bag.of("1 a 2 b")):
            with self.assertRaises(TypeError):
                iter(bag)
            with self.assertRaises(TypeError):
                list(bag)
            with self.assertRaises(TypeError):
                for _ in bag:
                    pass

    def test_within(self):
        for one, other in itertools.product(SMALL, SMALL):
            expected = all(one[kind] <= other[kind] for kind in "abc")
            self.assertIs(one.within(other), expected)
        self.assertIs(Bag.of("1 a").within(other=Bag.of("1 a 1 b")), True)
        self.assertIs(Bag.of(f"{10 ** 30} a").within(Bag.of(f"{10 ** 30 - 1} a")), False)

    def test_equal(self):
        for one, other in itertools.product(SMALL, SMALL):
            expected = all(one[kind] == other[kind] for kind in "abc")
            self.assertIs(one == other, expected)
            self.assertIs(one != other, not expected)

    def test_a_bag_equals_nothing_else(self):
        bag = Bag.of("1 a")
        for other in (bag.pairs, list(bag.pairs), bag.text, 1, None, True, {"a": 1}, AlwaysEqual()):
            self.assertIs(bag == other, False)
            self.assertIs(bag != other, True)
        for other in ((), "-", 0, None, False, {}):
            self.assertIs(Bag() == other, False)
            self.assertIs(Bag() != other, True)


class TestReckoning(unittest.TestCase):

    def test_plus(self):
        for one, other in itertools.product(SMALL, SMALL):
            both = one + other
            self.assertEqual([both[kind] for kind in "abc"],
                             [one[kind] + other[kind] for kind in "abc"])
            self.assertEqual(both.jobs, one.jobs + other.jobs)

    def test_minus(self):
        for one, other in itertools.product(SMALL, SMALL):
            lacking = [kind for kind in "abc" if other[kind] > one[kind]]
            if lacking:
                with self.assertRaises(Short) as caught:
                    one - other
                kind = lacking[0]
                self.assertEqual(vars(caught.exception),
                                 {"kind": kind, "lacking": other[kind] - one[kind]})
            else:
                self.assertEqual(one - other + other, one)

    def test_minus_leaves_no_kind_without_jobs(self):
        self.assertEqual((Bag.of("2 a 1 b") - Bag.of("2 a")).pairs, (("b", 1),))
        self.assertEqual((Bag.of("2 a") - Bag.of("2 a")).pairs, ())

    def test_short_of_a_great_number(self):
        with self.assertRaises(Short) as caught:
            Bag.of("5 a 1 z") - Bag((("z", 10 ** 30), ("b", 10 ** 30)))
        self.assertEqual(vars(caught.exception), {"kind": "b", "lacking": 10 ** 30})

    def test_times(self):
        for bag, number in itertools.product(SMALL, (0, 1, 2, 7, 10 ** 30)):
            expected = [number * bag[kind] for kind in "abc"]
            self.assertEqual([(bag * number)[kind] for kind in "abc"], expected)
            self.assertEqual([(number * bag)[kind] for kind in "abc"], expected)
        self.assertEqual((0 * Bag.of("3 a")).pairs, ())

    def test_operators_change_no_bag(self):
        one, other = Bag.of("2 a 1 b"), Bag.of("1 a")
        one + other, one - other, one * 3, 3 * one, one == other, one.within(other), "a" in one
        with self.assertRaises(Short):
            other - one
        self.assertEqual((one.text, other.text), ("2 a 1 b", "1 a"))

    def test_in_place_signs_leave_the_old_bag_as_it_was(self):
        old = name = Bag.of("2 a")
        name += Bag.of("1 b")
        self.assertEqual((old.text, name.text), ("2 a", "2 a 1 b"))
        older = name
        name -= Bag.of("1 a")
        self.assertEqual((older.text, name.text), ("2 a 1 b", "1 a 1 b"))
        name *= 2
        self.assertEqual((old.text, older.text, name.text), ("2 a", "2 a 1 b", "2 a 2 b"))

    def test_short_leaves_the_name_as_it_was(self):
        name = Bag.of("2 a")
        with self.assertRaises(Short):
            name -= Bag.of("3 a")
        self.assertEqual(name.text, "2 a")

    def test_other_operands_are_no_bags(self):
        for wrong in (lambda: Bag() + 1, lambda: Bag() - (), lambda: Bag() * Bag(), lambda: "a" * Bag()):
            with self.assertRaises(TypeError):
                wrong()


class TestTexts(unittest.TestCase):

    def test_text(self):
        self.assertEqual(Bag((("b", 10), ("a", 1), ("ab", 2))).text, "1 a 2 ab 10 b")

    def test_each_text_is_read_back(self):
        great = [Bag((("a", 10 ** 30), ("abcdefgh", 10 ** 45 + 7))), Bag((("z", 10),))]
        for bag in SMALL + great:
            self.assertEqual(Bag.of(bag.text), bag)
            self.assertEqual(Bag.of(text=bag.text).text, bag.text)

    def test_wrong_texts(self):
        for text in (
                "", " ", "  ", "- ", " -", "--", "- -", "- 1 a", "1 a -", "1 -", "-1 a", "+1 a",
                "1  a", "1 a  2 b", " 1 a", "1 a ", "01 a", "00 a", "0 a", "1 a 0 b", "1 a 02 b",
                "1", "a", "1 a 2", "a 1", "1 a b", "1 2", "a b", "1 b 1 a", "1 a 1 a", "2 b 1 b",
                "1 abcdefghi", "1 A", "1 a1", "1 a_b", "1 a-", "1 a,2 b", "1 a, 2 b", "1a", "1.0 a",
                "1_0 a", "1e3 a", "0x1 a", "1\na", "1 a\n", "\n1 a", "1\ta", "1 a\n2 b", "~", "1 ~",
                "\u0661 a", "\u00b2 a", "1 \u00e4", "1\u00a0a", "one a", "1 any 2 all"):
            with self.subTest(text=text):
                with self.assertRaises(BadLine) as caught:
                    Bag.of(text)
                self.assertEqual(vars(caught.exception), {"number": 0})

    def test_short_texts_are_read_exactly_if_a_bag_tells_them(self):
        told = {Bag(((one, many), (other, more))).text
                for one in ("a", "b") for other in ("a", "b")
                for many in (0, 1, 10, 11) for more in (0, 1, 10, 11)}
        for size in range(6):
            for letters in itertools.product("01ab -", repeat=size):
                self.check_one("".join(letters), told)

    def check_one(self, text, told):
        try:
            self.assertEqual(Bag.of(text).text, text)
        except BadLine as error:
            self.assertEqual(error.number, 0)
            self.assertNotIn(text, told)


if __name__ == "__main__":
    unittest.main()
