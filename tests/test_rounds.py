"""toldlate/rounds.py: point [6] of DOC.md."""

import itertools
import random
import unittest

from cases import Case, plan_with
from examples import run_examples
from oracles import (growing_by, leading, made_by, pairs_of, random_plan, random_plans, ring_by,
                     sides_by)
from toldlate import rounds
from toldlate.bags import Bag
from toldlate.errors import NoKind, NoOutcome
from toldlate.plans import Outcome, Plan
from toldlate.rounds import (grows, is_growing, is_round, leads, reached, ring, round_of, sides,
                             unending)

EXAMPLES = """
    >>> up = Plan((("check", "good", Outcome()), ("check", "torn", Outcome(Bag.of("1 upload"))), ("chunk", "last", Outcome(Bag.of("1 check"))), ("chunk", "lost", Outcome(Bag.of("1 chunk"))), ("chunk", "stored", Outcome()), ("upload", "large", Outcome(Bag.of("64 chunk"))), ("upload", "mid", Outcome(Bag.of("8 chunk"))), ("upload", "small", Outcome(Bag.of("1 chunk")))))
    >>> leads(up, "chunk"), ring(up, "check"), reached(up, Bag.of("3 upload")), unending(up)
    (('check', 'chunk', 'upload'), ('check', 'chunk', 'upload'), ('check', 'chunk', 'upload'), ())
    >>> sides(up), sides(up, ahead=(("check", "torn"),)), grows(up, "check"), grows(up, "chunk", ahead=(("upload", "large"), ("upload", "mid")))
    ((('upload', 'large'), ('upload', 'mid')), (), True, False)
    >>> one, whole = (("chunk", "lost"),), (("chunk", "lost"), ("chunk", "last"), ("check", "torn"), ("upload", "large"))
    >>> is_round(up, one), is_growing(up, one), is_growing(up, whole), is_round(up, whole[1:]), is_round(up, whole[:3]), is_round(up, list(whole)), is_round(up, ())
    (True, False, True, True, False, False, False)
    >>> found = round_of(up, "check", ahead=(("upload", "large"),))
    >>> is_growing(up, found), found[0], ("upload", "large") in found, len(found) < 6, round_of(up, "check", ahead=(("chunk", "last"),))
    (True, ('check', 'torn'), False, True, None)
    >>> knot = Plan((("a", "end", Outcome()), ("a", "go", Outcome(Bag.of("1 g"))), ("g", "back", Outcome(Bag.of("1 a"))), ("g", "split", Outcome(Bag.of("2 g"))), ("x", "more", Outcome(Bag.of("1 a"), ("note",))), ("note", "read", Outcome())))
    >>> grows(knot, "a"), is_growing(knot, (("a", "go"), ("g", "back"))), is_growing(knot, (("a", "go"), ("g", "split"), ("g", "back"))), grows(knot, "x"), leads(knot, "x"), ring(knot, "x"), leads(knot, "note")
    (True, False, True, False, ('a', 'g', 'note'), ('x',), ())
    >>> stuck = Plan((("p", "on", Outcome(Bag.of("1 q"))), ("q", "on", Outcome(Bag.of("1 p"), ("z",))), ("z", "end", Outcome()), ("z", "try", Outcome(Bag.of("1 w"), ("p",)))))
    >>> unending(stuck), sides(stuck), grows(stuck, "w"), ring(stuck, "z")
    (('p', 'q', 'w'), (('q', 'on'), ('z', 'try')), False, ('p', 'q', 'z'))
    >>> again = Plan((("z", "more", Outcome(Bag(), ("z",))),))
    >>> unending(again), sides(again), round_of(again, "z")
    ((), (('z', 'more'),), (('z', 'more'),))
    >>> grows(up, "file")
    raises NoKind(kind='file')
    >>> sides(up, ahead=(("chunk", "gone"), ("file", "cut")))
    raises NoOutcome(kind='chunk', outcome='gone')
"""

NAMES = ("leads", "ring", "reached", "unending", "sides", "grows", "round_of", "is_round", "is_growing")
NO_KINDS = ("", "Page", "abcdefghi", "zz", "p", 0, 1, -1, 10 ** 40, True, False, None)


class TestExamples(unittest.TestCase):

    def test_examples_of_section_5(self):
        names = {name: getattr(rounds, name) for name in NAMES}
        run_examples(self, EXAMPLES, {**names, "Bag": Bag, "Outcome": Outcome, "Plan": Plan})

    def test_functions_are_defined_in_their_file(self):
        for name in NAMES:
            self.assertEqual(getattr(rounds, name).__module__, "toldlate.rounds")


class TestLeading(Case):

    def test_by_chance(self):
        for plan in random_plans(2, 300, 5, 8):
            found = leading(plan)
            for kind in plan.kinds:
                self.assertEqual(leads(plan, kind), tuple(sorted(two for one, two in found if one == kind)))
                self.assertEqual(ring(plan, kind), tuple(sorted(ring_by(found, plan, kind))))

    def test_a_kind_leads_to_itself_only_if_it_can_come_again(self):
        plan = plan_with(a_go="1 b", b_go=("-", "c"), c_go="2 b", c_end="-")
        self.assertEqual([leads(plan, kind) for kind in plan.kinds],
                         [("b", "c"), ("b", "c"), ("b", "c")])
        self.assertEqual([ring(plan, kind) for kind in plan.kinds], [("a",), ("b", "c"), ("b", "c")])
        self.assertEqual(leads(plan_with(a_go="1 a"), "a"), ("a",))

    def test_a_kind_without_outcomes(self):
        plan = plan_with(a_go="1 b")
        self.assertEqual((leads(plan, "b"), ring(plan, "b"), grows(plan, "b"), round_of(plan, "b")),
                         ((), ("b",), False, None))

    def test_a_kind_that_is_in_more_alone(self):
        plan = plan_with(a_go=("-", "b"), b_go=("-", "a"))
        self.assertEqual((leads(plan, "a"), ring(plan, "b")), (("a", "b"), ("a", "b")))

    def test_reached(self):
        for plan in random_plans(3, 200, 5, 8):
            found = leading(plan)
            for many in range(3):
                for kinds in itertools.combinations(plan.kinds, many):
                    start = Bag([(kind, 2) for kind in kinds])
                    expected = set(kinds) | {two for one, two in found if one in kinds}
                    self.assertEqual(reached(plan, start), tuple(sorted(expected)))
        self.assertEqual(reached(plan_with(a_go="1 b"), Bag((("a", 0),))), ())
        self.assertEqual(reached(start=Bag.of("1 b"), plan=plan_with(a_go="1 b")), ("b",))

    def test_kinds_that_are_not_there(self):
        plan = plan_with(a_go="1 b", b_end="-")
        for value in NO_KINDS:
            self.refused(NoKind, (value,), leads, plan, value)
            self.refused(NoKind, (value,), ring, plan, kind=value)
            self.refused(NoKind, (value,), grows, plan, value, ahead=(("a", "no"),))
            self.refused(NoKind, (value,), round_of, plan, value, ahead=(("a", "no"),))
        self.refused(NoKind, ("aa",), reached, plan, Bag.of("1 a 1 aa 1 b 2 c"))
        self.refused(NoKind, ("a",), reached, Plan(), Bag.of("1 a"))


class TestUnending(Case):

    def test_by_all_sets_of_kinds(self):
        for plan in random_plans(4, 400, 4, 7):
            expected = set()
            for many in range(len(plan.kinds) + 1):
                for kinds in itertools.combinations(plan.kinds, many):
                    if all(set(kinds) & set(outcome.makes.kinds)
                           for kind, _, outcome in plan.rows if kind in kinds):
                        expected |= set(kinds)
            self.assertEqual(unending(plan), tuple(sorted(expected)))

    def test_edges(self):
        self.assertEqual(unending(Plan()), ())
        self.assertEqual(unending(plan_with(a_go="1 b")), ("a", "b"))
        self.assertEqual(unending(plan_with(a_go=("-", "b"))), ("b",))
        self.assertEqual(unending(plan_with(a_go=("1 b", "b"), b_end="-")), ())
        self.assertEqual(unending(plan_with(a_go="1 a")), ("a",))
        self.assertEqual(unending(plan_with(a_go="1 a", a_end="-")), ())
        self.assertEqual(unending(plan_with(a_go="1 b 1 c", b_end="-", c_go="1 c")), ("a", "c"))


class TestSides(Case):

    def test_by_chance_with_and_without_ahead(self):
        rng = random.Random(5)
        for plan in random_plans(6, 400, 4, 8):
            for chance in (0, 0.3, 0.7, 1):
                ahead = tuple(pair for pair in pairs_of(plan) if rng.random() < chance)
                self.assertEqual(sides(plan, ahead=ahead), tuple(sorted(sides_by(plan, ahead))))
                growing = growing_by(plan, ahead)
                for kind in plan.kinds:
                    self.assertIs(grows(plan, kind, ahead=ahead), kind in growing)
            self.assertEqual(sides(plan), sides(plan, ahead=()))

    def test_what_is_a_side(self):
        def is_side(*made):
            return sides(plan_with(a_go=made, b_end="-")) == (("a", "go"),)
        for made in (("2 a",), ("1 a 1 b",), ("1 a", "b"), ("1 a", "a"), ("-", "a"), ("-", "a", "b"),
                     ("1 b", "a"), ("5 b", "a"), (f"{10 ** 30} a",)):
            self.assertTrue(is_side(*made), made)
        for made in (("-",), ("1 a",), ("1 b",), ("2 b",), ("-", "b"), ("9 b", "b")):
            self.assertFalse(is_side(*made), made)

    def test_rounds_that_hand_a_job_on_do_not_grow(self):
        plan = plan_with(a_go="1 b", b_go="1 c", c_go="1 a", c_end="2 d", d_end="-")
        self.assertEqual((sides(plan), [grows(plan, kind) for kind in plan.kinds]), ((), [False] * 4))

    def test_a_kind_that_only_leads_to_a_growing_one_does_not_grow(self):
        plan = plan_with(a_go="1 b 1 c", b_go="2 b", c_end="-")
        self.assertEqual([grows(plan, kind) for kind in plan.kinds], [False, True, False])

    def test_all_kinds_of_a_ring_grow_with_it(self):
        plan = plan_with(a_go="1 b", b_go="1 c", c_go="1 a 1 d", d_end="-")
        self.assertEqual([grows(plan, kind) for kind in plan.kinds], [True, True, True, False])

    def test_ahead_can_open_a_ring_although_it_is_no_side(self):
        plan = plan_with(a_go="1 b", b_go="2 a")
        self.assertEqual(sides(plan, ahead=(("a", "go"),)), ())
        self.assertIs(grows(plan, "b", ahead=(("a", "go"),)), False)
        self.assertEqual(round_of(plan, "b", ahead=(("a", "go"),)), None)

    def test_kinds_stay_kinds_without_the_outcomes_of_ahead(self):
        plan = plan_with(a_go="2 a 1 b")
        for kind in "ab":
            self.assertIs(grows(plan, kind, ahead=(("a", "go"),)), False)

    def test_lists_for_ahead(self):
        plan = plan_with(a_go="1 a", a_two="2 a", b_go="1 a 1 b")
        for ahead in ((("a", "two"),), [["a", "two"]], [("a", "two")], (["a", "two"],)):
            self.assertEqual(sides(plan, ahead=ahead), (("b", "go"),))
            self.assertIs(grows(plan, "a", ahead=ahead), False)
            self.assertEqual(round_of(kind="b", ahead=ahead, plan=plan), (("b", "go"),))
        self.assertEqual(ahead, (["a", "two"],))

    def test_ahead_is_passed_by_name_alone(self):
        for call in (lambda: sides(Plan(), ()), lambda: grows(plan_with(a_go="-"), "a", ()),
                     lambda: round_of(plan_with(a_go="-"), "a", ())):
            with self.assertRaises(TypeError):
                call()

    def test_ahead_that_is_not_in_the_plan(self):
        plan = plan_with(a_go="1 b", b_end="-")
        for value in NO_KINDS:
            for pair in ((value, "go"), ("a", value), ("b", value)):
                for call in (lambda ahead: sides(plan, ahead=ahead),
                             lambda ahead: grows(plan, "a", ahead=ahead),
                             lambda ahead: round_of(plan, "b", ahead=ahead)):
                    self.refused(NoOutcome, pair, call, (pair,))
                    self.refused(NoOutcome, pair, call, [["a", "go"], list(pair), ["z", "z"]])


class TestRoundOf(Case):

    def check(self, plan, kind, ahead=()):
        found = round_of(plan, kind, ahead=ahead)
        if kind not in growing_by(plan, ahead):
            self.assertIsNone(found)
            return
        self.assertIs(is_growing(plan, found), True)
        self.assertEqual(found[0][0], kind)
        self.assertFalse(set(found) & set(ahead))
        self.assertTrue(set(found) & sides_by(plan, ahead))
        self.assertLess(len(found), 2 * len(ring_by(leading(plan, ahead), plan, kind)))
        self.assertEqual(round_of(plan, kind, ahead=[list(pair) for pair in ahead]), found)

    def test_by_chance(self):
        rng = random.Random(7)
        for plan in random_plans(8, 400, 6, 12):
            ahead = tuple(pair for pair in pairs_of(plan) if rng.random() < 0.2)
            for kind in plan.kinds:
                self.check(plan, kind)
                self.check(plan, kind, ahead)

    def test_long_rings(self):
        kinds = "abcdefgh"
        rows = [(kind, "on", Outcome(Bag(((after, 1),)))) for kind, after in zip(kinds, kinds[1:] + "a")]
        for at, kind in enumerate(kinds):
            plan = Plan(rows).put(kind, "two", Outcome(Bag(((kinds[at - 3], 2),))))
            for other in kinds:
                self.check(plan, other)
                self.check(plan, other, ((kinds[at - 4], "on"),))

    def test_a_ring_of_one_kind(self):
        plan = plan_with(a_on="1 a", a_two="2 a")
        self.assertEqual(round_of(plan, "a"), (("a", "two"),))


class TestIsRound(Case):

    ON = plan_with(a_go="1 b", a_same="1 a", a_two=("1 b", "a"), b_back="1 a", b_end="-", b_out="1 c",
                   c_end="-")

    def is_by_words(self, plan, thing):
        return all(then[0] in made_by(plan[pair]) for pair, then in zip(thing, thing[1:] + thing[:1]))

    def test_all_short_tuples_of_pairs(self):
        for plan in [self.ON] + random_plans(9, 12, 3, 5):
            side = sides_by(plan)
            for many in range(1, 5):
                for thing in itertools.product(pairs_of(plan), repeat=many):
                    expected = self.is_by_words(plan, thing)
                    self.assertIs(is_round(plan, thing), expected)
                    self.assertIs(is_growing(plan, thing), expected and bool(set(thing) & side))

    def test_a_round_of_one_pair(self):
        self.assertIs(is_round(self.ON, (("a", "same"),)), True)
        self.assertIs(is_growing(self.ON, (("a", "same"),)), False)
        self.assertIs(is_growing(self.ON, (("a", "two"),)), True)
        self.assertIs(is_round(self.ON, (("a", "go"),)), False)

    def test_a_round_that_comes_back_several_times(self):
        thing = (("a", "go"), ("b", "back"), ("a", "same"), ("a", "same")) * 300
        self.assertIs(is_round(self.ON, thing), True)
        self.assertIs(is_growing(self.ON, thing), False)
        self.assertIs(is_growing(self.ON, thing + (("a", "two"),)), True)
        self.assertIs(is_round(self.ON, thing[1:]), False)

    def test_any_numbers_hand_a_job_on_too(self):
        plan = plan_with(a_go=("-", "b"), b_back=("1 c", "a"), c_end="-")
        self.assertIs(is_growing(plan, (("a", "go"), ("b", "back"))), True)

    def test_what_is_no_round(self):
        go, back = ("a", "go"), ("b", "back")
        deep = ()
        for _ in range(12):
            deep = (deep,)
        for thing in ((), [], [go, back], (list(go), list(back)), (go, list(back)), go, "ab", "", "a", 0, 1, -7,
                      True, False, None, (None,), (True, False), ((),), ([],), (([],),), (("a",),),
                      (("a", "go", "go"),), (("a", "same", 1),), (("a", 1),), ((1, "same"),), ((None, None),),
                      (("a", ["same"]),), ((["a"], "same"),), ((("a",), "same"),), (("a", ("same",)),),
                      (go, back, ()), (go, back, None), (go, back, 0), (go, back, "ab"), ((go, back),),
                      (("b", "go"), ("a", "back")), (("c", "end"),), (("z", "z"),), ("as", "as"), deep, [deep],
                      ((go, back), (go, back)), (10 ** 40,), (("a", "same"), ["a", "same"])):
            with self.subTest(thing=thing):
                self.assertIs(is_round(self.ON, thing), False)
                self.assertIs(is_growing(self.ON, thing), False)
        self.assertIs(is_round(thing=(go, back), plan=self.ON), True)
        self.assertIs(is_growing(thing=(go, back), plan=self.ON), False)
        self.assertIs(is_round(Plan(), (go, back)), False)

    def test_strings_are_no_pairs(self):
        plan = plan_with(a_b="1 a")
        self.assertIs(is_round(plan, (("a", "b"),)), True)
        for thing in (("ab",), "ab", ("a", "b")):
            self.assertIs(is_round(plan, thing), False)


class TestSameAnswers(Case):

    def test_the_same_call_returns_an_equal_result(self):
        rng = random.Random(10)
        for _ in range(30):
            plan = random_plan(rng, 5, 9)
            again = Plan([list(row) for row in reversed(plan.rows)])
            for kind in plan.kinds:
                self.assertEqual(round_of(plan, kind), round_of(again, kind))


if __name__ == "__main__":
    unittest.main()
