"""toldlate/plans.py: point [5] of DOC.md."""

import itertools
import random
import unittest

from cases import NO_NAMES, AlwaysEqual, Case
from examples import run_examples
from oracles import notices_by, pairs_of, random_bag, random_plan, random_plans
from toldlate import plans
from toldlate.bags import Bag
from toldlate.errors import NoAny, NoKind, NoName, NoOutcome, Unlike
from toldlate.plans import Notice, Outcome, Plan

EXAMPLES = """
    >>> page = Outcome(Bag.of("2 note"), ("image",))
    >>> plan = Plan((("page", "got", page), ("page", "gone", Outcome()), ("note", "kept", Outcome()), ("image", "kept", Outcome())))
    >>> plan.kinds, plan.outcomes("page"), len(plan), ("page", "kept") in plan, plan["page", "got"].more
    (('image', 'note', 'page'), ('gone', 'got'), 4, False, ('image',))
    >>> notice = plan.notice("page", "got", Bag.of("3 image"))
    >>> notice.made.text, plan.fits(notice), plan.fits(Notice("page", "got", Bag.of("1 note"))), plan.notice("page", "gone").made.jobs
    ('3 image 2 note', True, False, 0)
    >>> plan.notice("page", "got", Bag.of("1 image 1 page"))
    raises NoAny(kind='page')
    >>> plan | Plan((("page", "gone", Outcome(Bag(), (), 1)),))
    raises Unlike(kind='page', outcome='gone')
    >>> plan.without("image", "kept").kinds, plan.without("image", "kept").outcomes("image"), plan.put("image", "kept", Outcome()) == plan
    (('image', 'note', 'page'), (), True)
"""

BARE = Outcome()
TWO_B = Outcome(Bag.of("2 b"))
MANY_C = Outcome(Bag.of("1 c"), ("c", "d"), 5)
SMALL = Plan((("a", "more", MANY_C), ("a", "two", TWO_B), ("b", "end", BARE)))


class TestExamples(unittest.TestCase):

    def test_examples_of_section_4(self):
        run_examples(self, EXAMPLES, {"Bag": Bag, "Notice": Notice, "Outcome": Outcome, "Plan": Plan})


class TestOutcome(Case):

    def test_it_is_defined_in_its_file(self):
        self.assertEqual(Outcome.__module__, "toldlate.plans")
        for name in ("makes", "more", "cost", "__eq__"):
            self.assertIn(name, vars(plans.Outcome))

    def test_one_that_makes_nothing(self):
        for outcome in (Outcome(), Outcome(Bag()), Outcome(Bag(), ()), Outcome(Bag(), [], 0),
                        Outcome(makes=Bag()), Outcome(more=()), Outcome(cost=0)):
            self.assertEqual((outcome.makes, outcome.more, outcome.cost), (Bag(), (), 0))
            self.assertEqual(outcome, BARE)

    def test_values_by_name_and_by_position(self):
        one = Outcome(cost=3, more=("b",), makes=Bag.of("1 a"))
        self.assertEqual((one.makes.text, one.more, one.cost), ("1 a", ("b",), 3))
        self.assertEqual(Outcome(Bag.of("1 a"), ("b",), 3), one)

    def test_more_is_a_set(self):
        for order in itertools.permutations(("b", "ab", "a", "b")):
            self.assertEqual(repr(Outcome(Bag(), order).more), "('a', 'ab', 'b')")
            self.assertEqual(repr(Outcome(Bag(), list(order)).more), "('a', 'ab', 'b')")

    def test_a_kind_in_makes_and_in_more(self):
        one = Outcome(Bag.of("2 a"), ("a",))
        self.assertEqual((one.makes.text, one.more), ("2 a", ("a",)))
        self.assertNotEqual(one, Outcome(Bag.of("2 a")))
        self.assertNotEqual(one, Outcome(Bag(), ("a",)))

    def test_what_is_no_name_in_more(self):
        for value in NO_NAMES:
            with self.subTest(value=value):
                self.refused(NoName, (value,), Outcome, Bag(), ("a", value, "b"))
                self.refused(NoName, (value,), Outcome, more=[value])
        self.refused(NoName, ("C",), Outcome, Bag(), ("a", "C", "B"))

    def test_great_numbers(self):
        great = Outcome(Bag((("a", 10 ** 30),)), (), 10 ** 30)
        self.assertEqual((great.makes["a"], great.cost), (10 ** 30, 10 ** 30))

    def test_a_list_for_more_is_copied(self):
        more = ["b", "a"]
        outcome = Outcome(Bag(), more)
        self.assertEqual(more, ["b", "a"])
        more.append("z")
        self.assertEqual(outcome.more, ("a", "b"))

    def test_properties_have_no_setters(self):
        outcome = Outcome(Bag.of("1 a"), ("b",), 1)
        for name in ("makes", "more", "cost"):
            with self.assertRaises(AttributeError):
                setattr(outcome, name, ())

    def test_equal(self):
        made = [(bag, more, cost) for bag in ("-", "1 a", "2 a") for more in ((), ("a",), ("a", "b"))
                for cost in (0, 1)]
        for one, two in itertools.product(made, made):
            first, second = (Outcome(Bag.of(bag), more, cost) for bag, more, cost in (one, two))
            self.assertIs(first == second, one == two)
            self.assertIs(first != second, one != two)

    def test_an_outcome_equals_nothing_else(self):
        self.equals_nothing_else(BARE, (None, 0, (), "-", Bag(), (Bag(), (), 0), Plan(),
                                        Notice("a", "a", Bag()), AlwaysEqual()))


class TestNotice(Case):

    def test_it_is_defined_in_its_file(self):
        self.assertEqual(Notice.__module__, "toldlate.plans")
        self.assertIn("__eq__", vars(plans.Notice))

    def test_attributes(self):
        for notice in (Notice("page", "got", Bag.of("2 note")),
                       Notice(made=Bag.of("2 note"), outcome="got", kind="page")):
            self.assertEqual((notice.kind, notice.outcome, notice.made.text), ("page", "got", "2 note"))

    def test_what_is_no_name(self):
        for value in NO_NAMES:
            with self.subTest(value=value):
                self.refused(NoName, (value,), Notice, value, "got", Bag())
                self.refused(NoName, (value,), Notice, "page", value, Bag())
        self.refused(NoName, ("Page",), Notice, "Page", "Got", Bag())

    def test_equal(self):
        made = list(itertools.product(("a", "b"), ("a", "b"), ("-", "1 a", "1 b")))
        for one, two in itertools.product(made, made):
            first, second = (Notice(kind, name, Bag.of(bag)) for kind, name, bag in (one, two))
            self.assertIs(first == second, one == two)
            self.assertIs(first != second, one != two)

    def test_a_notice_equals_nothing_else(self):
        self.equals_nothing_else(Notice("a", "b", Bag()), (None, ("a", "b", Bag()), "a b: -", Bag(),
                                                           Outcome(), AlwaysEqual()))


class TestMakingPlans(Case):

    def test_it_is_defined_in_its_file(self):
        self.assertEqual(Plan.__module__, "toldlate.plans")
        for name in ("rows", "kinds", "outcomes", "put", "without", "notice", "fits", "__len__",
                     "__getitem__", "__contains__", "__or__", "__eq__"):
            self.assertIn(name, vars(plans.Plan))

    def test_no_rows(self):
        for plan in (Plan(), Plan(()), Plan([]), Plan(rows=())):
            self.assertEqual((plan.rows, plan.kinds, len(plan)), ((), (), 0))
            self.assertEqual(plan, Plan())

    def test_rows_ascend_by_kind_and_name(self):
        rows = [("ab", "a", TWO_B), ("a", "z", BARE), ("a", "b", BARE), ("b", "a", MANY_C)]
        for order in itertools.permutations(rows):
            plan = Plan(order)
            self.assertEqual([(kind, name) for kind, name, _ in plan.rows],
                             [("a", "b"), ("a", "z"), ("ab", "a"), ("b", "a")])
            self.assertEqual(plan.rows[2][2], TWO_B)
            self.assertEqual(plan.rows, tuple(sorted(rows, key=lambda row: row[:2])))
            self.assertIsInstance(plan.rows[0], tuple)

    def test_an_equal_row_twice_stands_once(self):
        plan = Plan((("a", "b", Outcome(Bag.of("1 a"))), ("a", "b", Outcome(Bag.of("1 a")))))
        self.assertEqual(len(plan.rows), 1)
        self.assertEqual(len(plan), 1)

    def test_lists_for_tuples(self):
        plan = Plan([["a", "more", MANY_C], ["a", "two", TWO_B], ["b", "end", BARE]])
        self.assertEqual(plan, SMALL)
        self.assertEqual(repr(plan.kinds), "('a', 'b', 'c', 'd')")

    def test_rows_that_were_passed_are_copied_and_not_changed(self):
        rows = [["b", "x", BARE], ["a", "y", TWO_B]]
        plan = Plan(rows)
        self.assertEqual([row[:2] for row in rows], [["b", "x"], ["a", "y"]])
        rows[0][0] = "z"
        rows.pop()
        self.assertEqual([(kind, name) for kind, name, _ in plan.rows], [("a", "y"), ("b", "x")])

    def test_kinds(self):
        self.assertEqual(Plan((("b", "x", Outcome(Bag.of("2 d 1 f"), ("a", "b"))),)).kinds,
                         ("a", "b", "d", "f"))
        self.assertEqual(Plan((("b", "x", Outcome(Bag((("a", 0),)))),)).kinds, ("b",))

    def test_one_name_may_be_a_kind_and_the_name_of_an_outcome(self):
        plan = Plan((("a", "a", Outcome(Bag.of("1 a"))), ("a", "b", BARE), ("b", "a", TWO_B)))
        self.assertEqual((plan.kinds, plan.outcomes("a"), plan.outcomes("b")), (("a", "b"), ("a", "b"), ("a",)))

    def test_what_is_no_name(self):
        for value in NO_NAMES:
            with self.subTest(value=value):
                self.refused(NoName, (value,), Plan, ((value, "x", BARE),))
                self.refused(NoName, (value,), Plan, [["a", "x", BARE], ["a", value, BARE]])

    def test_the_first_row_that_fails_decides(self):
        self.refused(NoName, ("A",), Plan, (("A", "B", BARE),))
        self.refused(NoName, ("B",), Plan, (("a", "B", BARE), ("A", "b", BARE)))
        twice = (("a", "x", BARE), ("a", "x", TWO_B))
        self.refused(Unlike, ("a", "x"), Plan, twice + (("A", "x", BARE),))
        self.refused(NoName, ("A",), Plan, (("A", "x", BARE),) + twice)
        self.refused(Unlike, ("b", "x"), Plan, (
            ("a", "x", BARE), ("b", "x", BARE), ("b", "x", TWO_B), ("a", "x", TWO_B)))

    def test_unlike_tells_by_each_part_of_the_outcome(self):
        for other in (Outcome(Bag.of("1 a")), Outcome(Bag(), ("a",)), Outcome(Bag(), (), 1)):
            self.refused(Unlike, ("a", "x"), Plan, (("a", "x", BARE), ("a", "x", other)))

    def test_properties_have_no_setters(self):
        for name in ("rows", "kinds"):
            with self.assertRaises(AttributeError):
                setattr(SMALL, name, ())


class TestAskingPlans(Case):

    def test_outcomes(self):
        self.assertEqual((SMALL.outcomes("a"), SMALL.outcomes(kind="b"), SMALL.outcomes("c"),
                          SMALL.outcomes("d")), (("more", "two"), ("end",), (), ()))
        for value in NO_NAMES + ("e", "end"):
            self.refused(NoKind, (value,), SMALL.outcomes, value)

    def test_the_outcome_of_a_pair(self):
        self.assertEqual((SMALL["a", "more"], SMALL["a", "two"], SMALL["b", "end"]), (MANY_C, TWO_B, BARE))
        self.assertEqual(SMALL[["a", "two"]], TWO_B)

    def test_pairs_that_are_not_there(self):
        for value in NO_NAMES + ("e",):
            self.refused(NoKind, (value,), lambda kind: SMALL[kind, "two"], value)
            self.refused(NoKind, (value,), lambda kind: SMALL[kind, "TWO"], value)
            self.refused(NoOutcome, ("a", value), lambda name: SMALL["a", name], value)
        self.refused(NoOutcome, ("c", "two"), lambda: SMALL["c", "two"])

    def test_in(self):
        for kind, name in itertools.product("abcde", ("more", "two", "end", "a")):
            expected = (kind, name) in (("a", "more"), ("a", "two"), ("b", "end"))
            self.assertIs((kind, name) in SMALL, expected)
            self.assertIs([kind, name] in SMALL, expected)
            self.assertIs((kind, name) not in SMALL, not expected)
        for other in ("ab", ("a", "b", "b"), ("a",), (), [], None, 0, "a b", BARE, {"a": "b"}):
            self.assertIs(other in Plan((("a", "b", BARE),)), False)
        for value in NO_NAMES + ((), ("a",), [], {}):
            self.assertIs((value, "two") in SMALL, False)
            self.assertIs(("a", value) in SMALL, False)
            self.assertIs([value, value] in SMALL, False)

    def test_not_iterated_over(self):
        for plan in (Plan(), SMALL):
            with self.assertRaises(TypeError):
                iter(plan)
            with self.assertRaises(TypeError):
                list(plan)

    def test_len(self):
        self.assertEqual((len(Plan()), len(SMALL), len(SMALL.without("a", "two"))), (0, 3, 2))

    def test_equal(self):
        made = random_plans(1, 60, 2, 2)
        for one, two in itertools.product(made, made):
            expected = len(one) == len(two) and all(
                (kind, name) in two and two[kind, name] == outcome for kind, name, outcome in one.rows)
            self.assertIs(one == two, expected)
            self.assertIs(one != two, not expected)

    def test_a_plan_equals_nothing_else(self):
        self.equals_nothing_else(SMALL, (SMALL.rows, list(SMALL.rows), None, 3, "-", AlwaysEqual()))
        self.equals_nothing_else(Plan(), ((), [], 0, False, None, "-", Bag(), AlwaysEqual()))


class TestChangingPlans(Case):

    def test_put(self):
        other = SMALL.put("a", "two", BARE)
        self.assertEqual((other["a", "two"], other["a", "more"], other["b", "end"], len(other)),
                         (BARE, MANY_C, BARE, 3))
        self.assertEqual(SMALL["a", "two"], TWO_B)
        more = SMALL.put(outcome=TWO_B, name="new", kind="z")
        self.assertEqual((more["z", "new"], len(more), more.kinds), (TWO_B, 4, ("a", "b", "c", "d", "z")))
        self.assertEqual((len(SMALL), SMALL.put("a", "two", TWO_B) == SMALL), (3, True))
        self.assertEqual(Plan().put("a", "x", BARE), Plan((("a", "x", BARE),)))

    def test_put_can_take_a_kind_away(self):
        self.assertEqual(SMALL.put("a", "more", BARE).kinds, ("a", "b"))

    def test_put_what_is_no_name(self):
        for value in NO_NAMES:
            self.refused(NoName, (value,), SMALL.put, value, "x", BARE)
            self.refused(NoName, (value,), SMALL.put, "a", value, BARE)
        self.refused(NoName, ("A",), SMALL.put, "A", "B", BARE)

    def test_without(self):
        other = SMALL.without("a", "more")
        self.assertEqual((other.rows, other.kinds), (SMALL.rows[1:], ("a", "b")))
        self.assertEqual(SMALL.without(name="two", kind="a").kinds, ("a", "b", "c", "d"))
        self.assertEqual(len(SMALL), 3)
        for value in NO_NAMES + ("e",):
            self.refused(NoKind, (value,), SMALL.without, value, "X")
            self.refused(NoOutcome, ("a", value), SMALL.without, "a", value)

    def test_both(self):
        other = Plan((("a", "two", TWO_B), ("a", "end", BARE), ("e", "two", BARE)))
        both = SMALL | other
        self.assertEqual([row[:2] for row in both.rows], [
            ("a", "end"), ("a", "more"), ("a", "two"), ("b", "end"), ("e", "two")])
        self.assertEqual((both["a", "more"], both["a", "end"]), (MANY_C, BARE))
        self.assertEqual(other | SMALL, both)
        self.assertEqual((len(SMALL), len(other)), (3, 3))
        self.assertEqual((SMALL | Plan(), Plan() | SMALL, SMALL | SMALL), (SMALL, SMALL, SMALL))

    def test_both_in_place_leaves_the_old_plan(self):
        name = old = SMALL
        name |= Plan((("e", "x", BARE),))
        self.assertEqual((len(old), len(name)), (3, 4))

    def test_both_unlike(self):
        one = Plan((("a", "x", BARE), ("ab", "x", BARE), ("b", "a", BARE), ("b", "b", BARE)))
        two = Plan((("b", "b", TWO_B), ("b", "a", TWO_B), ("ab", "x", TWO_B), ("a", "x", BARE)))
        self.refused(Unlike, ("ab", "x"), lambda: one | two)
        self.refused(Unlike, ("ab", "x"), lambda: two | one)
        self.refused(Unlike, ("b", "a"), lambda: one | two.put("ab", "x", BARE))
        for wrong in (lambda: one | (), lambda: one | one.rows, lambda: {} | one):
            with self.assertRaises(TypeError):
                wrong()


class TestNoticesOfPlans(Case):

    def test_notice(self):
        for notice in (SMALL.notice("a", "more"), SMALL.notice("a", "more", Bag()),
                       SMALL.notice(chosen=Bag(), name="more", kind="a")):
            self.assertEqual(notice, Notice("a", "more", Bag.of("1 c")))
        self.assertEqual(SMALL.notice("a", "more", Bag.of("2 c 7 d")), Notice("a", "more", Bag.of("3 c 7 d")))
        self.assertEqual(SMALL.notice("b", "end"), Notice("b", "end", Bag()))

    def test_refused_notices(self):
        for value in NO_NAMES + ("e",):
            self.refused(NoKind, (value,), SMALL.notice, value, "x", Bag.of("1 z"))
            self.refused(NoOutcome, ("a", value), SMALL.notice, "a", value, Bag.of("1 z"))
        self.refused(NoAny, ("b",), SMALL.notice, "a", "two", Bag.of("1 b 1 z"))
        self.refused(NoAny, ("a",), SMALL.notice, "a", "more", Bag.of("1 a 1 c 1 d 1 z"))
        self.assertEqual(SMALL.notice("a", "two", Bag((("z", 0),))).made.text, "2 b")

    def test_fits(self):
        fitting = ("1 c", "2 c", "9 c", "1 c 1 d", "3 c 100 d")
        for text in fitting + ("-", "1 d", "1 a 1 c", "1 c 1 d 1 z", "1 b", "2 b 1 c"):
            self.assertIs(SMALL.fits(Notice("a", "more", Bag.of(text))), text in fitting)
        for text in ("-", "1 b", "2 b", "3 b", "2 b 1 c"):
            self.assertIs(SMALL.fits(notice=Notice("a", "two", Bag.of(text))), text == "2 b")
        for kind, name in (("a", "end"), ("e", "more"), ("c", "more"), ("more", "a")):
            self.assertIs(SMALL.fits(Notice(kind, name, Bag())), False)

    def test_fits_exactly_what_notice_gives(self):
        rng = random.Random(5)
        for _ in range(60):
            plan = random_plan(rng, 3, 4)
            told = notices_by(plan, pairs_of(plan), 3)
            for notice in told:
                self.assertIs(plan.fits(notice), True)
            for kind, name in pairs_of(plan):
                notice = Notice(kind, name, random_bag(rng, plan.kinds))
                self.assertIs(plan.fits(notice), notice in told)


if __name__ == "__main__":
    unittest.main()
