"""Points [2], [3] and [16] of DOC.md, as far as they hold of all that is built."""

import doctest
import inspect
import pathlib
import unittest

from cases import plan_with
from toldlate import ahead, bags, books, clocks, hands, plans, readings, rounds, runs
from toldlate.bags import Bag
from toldlate.clocks import Clock
from toldlate.errors import NotEnough
from toldlate.hands import Hands
from toldlate.plans import Notice, Outcome, Plan
from toldlate.runs import Run

FUNCTIONS = {
    hands: ("hand(place, count=1)",),
    rounds: (
        "leads(plan, kind)", "ring(plan, kind)", "reached(plan, start)", "unending(plan)",
        "sides(plan, *, ahead=())", "grows(plan, kind, *, ahead=())", "round_of(plan, kind, *, ahead=())",
        "is_round(plan, thing)", "is_growing(plan, thing)"),
    runs: (
        "left(start, notices)", "entered(start, notices)", "is_run(start, notices)", "order_of(start, notices)",
        "why_no_run(start, notices)", "is_part(run, notices)", "late(run, notices)"),
    books: (
        "books(start, notices)", "closed(start, notices)", "met(start, notices)",
        "sure(plan, start, notices, *, ahead=())", "twin(plan, start, notices, *, ahead=())",
        "is_twin(plan, start, notices, run, *, ahead=())"),
    ahead: (
        "enough(plan, start, ahead)", "avoiding(plan, start, ahead)", "least_ahead(plan, start, candidates)",
        "cheapest_ahead(plan, start, prices)", "needed_round(plan, start, ahead, member)"),
    clocks: (
        "is_good(plan, clock, start)", "breach(plan, clock, start)", "heavy(plan, start)", "heavy_round(plan, start)",
        "bound(clock, outcome)", "least_clock(plan, start, *, costs=True)", "hands_needed(plan, start)",
        "any_way(plan, start)", "crowd(plan, start)", "crowd_ends(plan, start)", "longest(plan, start)",
        "dearest(plan, start)"),
    readings: (
        "fall(clock, notice)", "reading(clock, start, notices)", "most_alive(plan, start, notices)",
        "most_cost(plan, start, notices)"),
}

# Bag() as a default value is written None where LANGUAGE.md allows plain ones alone.
METHODS = {
    bags.Bag: ("__init__(self, pairs=())", "within(self, other)", "of(text)"),
    hands.Hands: ("__init__(self, numbers=())", "cut(self)", "of(text)"),
    plans.Outcome: ("__init__(self, makes=None, more=(), cost=0)",),
    plans.Notice: ("__init__(self, kind, outcome, made)",),
    plans.Plan: (
        "__init__(self, rows=())", "outcomes(self, kind)", "put(self, kind, name, outcome)",
        "without(self, kind, name)", "notice(self, kind, name, chosen=None)", "fits(self, notice)"),
    runs.Run: ("__init__(self, start, notices=())", "first(self, many)"),
    clocks.Clock: ("__init__(self, pairs)", "hands(self, bag)"),
}

PROPERTIES = {
    bags.Bag: ("pairs", "kinds", "jobs", "text"), hands.Hands: ("numbers", "places", "plain", "text"),
    plans.Outcome: ("makes", "more", "cost"), plans.Plan: ("rows", "kinds"),
    runs.Run: ("start", "notices", "alive", "peak"), clocks.Clock: ("kinds",),
}

README = pathlib.Path(__file__).resolve().parent.parent / "README.md"
KINDS = "abcdefgh"
FULL = Plan([(kind, name, Outcome(Bag([(made, 10 ** 30) for made in KINDS]), KINDS[:3], 10 ** 30))
             for kind in KINDS for name in ("x", "y")])
# No outcome of this one is heavy: each kind makes great numbers of all that stand behind it.
GREAT = 10 ** 30
DEEP = Plan([(kind, name, Outcome(Bag([(made, GREAT) for made in KINDS[at + 1:]]), more, GREAT))
             for at, kind in enumerate(KINDS) for name, more in (("x", KINDS[at + 1:at + 4]), ("y", ()))])


class TestInterface(unittest.TestCase):

    def test_functions(self):
        for module, heads in FUNCTIONS.items():
            for head in heads:
                own = getattr(module, head.partition("(")[0])
                self.assertEqual(own.__name__ + str(inspect.signature(own)), head)
                self.assertEqual(own.__module__, module.__name__)

    def test_methods_are_defined_in_the_class_itself(self):
        for owner, heads in METHODS.items():
            for head in heads:
                name = head.partition("(")[0]
                self.assertIn(name, vars(owner))
                self.assertEqual(name + str(inspect.signature(getattr(owner, name))), head)

    def test_properties_have_no_setters(self):
        for owner, names in PROPERTIES.items():
            for name in names:
                self.assertIsInstance(vars(owner)[name], property)
                self.assertIsNone(vars(owner)[name].fset)

    def test_attributes_of_a_notice(self):
        self.assertEqual(sorted(vars(Notice("a", "b", Bag()))), ["kind", "made", "outcome"])

    def test_examples_of_the_readme(self):
        failed, tried = doctest.testfile(str(README), module_relative=False)
        self.assertEqual(failed, 0)
        self.assertGreater(tried, 0)


class TestBounds(unittest.TestCase):
    """The greatest arguments of [3], and somewhat greater ones."""

    def test_full_plans(self):
        self.assertEqual((len(FULL), FULL.kinds), (16, tuple(KINDS)))
        for kind in KINDS:
            self.assertEqual(rounds.ring(FULL, kind), tuple(KINDS))
            self.assertIs(rounds.is_growing(FULL, rounds.round_of(FULL, kind)), True)
        self.assertEqual(len(rounds.sides(FULL)), 16)
        self.assertEqual(rounds.unending(FULL), tuple(KINDS))

    def test_larger_plans(self):
        kinds = [one + two for one in "abc" for two in "abcd"]
        rows = [(kind, name, Outcome(Bag(((after, 1),)))) for kind, after in zip(kinds, kinds[1:] + kinds[:1])
                for name in ("x", "y")]
        plan = Plan(rows).put("aa", "more", Outcome(Bag(), kinds[:5]))
        self.assertEqual(rounds.ring(plan, "cd"), tuple(kinds))
        self.assertLess(len(rounds.round_of(plan, "cd")), 24)

    def test_starts_with_other_kinds(self):
        start = Bag([(kind, 10 ** 30) for kind in KINDS + "wxyz"])
        self.assertEqual(len(books.books(start, ())), 12)
        self.assertEqual(books.met(start, ()), tuple(KINDS + "wxyz"))
        self.assertEqual(Run(start).peak, 12 * 10 ** 30)

    def test_many_notices(self):
        notice = FULL.notice("a", "x", Bag.of("5 b"))
        run = Run(Bag.of("1 a"), (notice,) * 90)
        self.assertEqual(runs.order_of(Bag.of("1 a"), (notice,) * 90), run)
        self.assertEqual(run.alive["b"], 90 * (10 ** 30 + 5))
        self.assertEqual(len(runs.late(run, (notice,) * 30)), 60)

    def test_many_candidates_and_prices(self):
        start = Bag([(kind, GREAT) for kind in KINDS])
        pairs = tuple((kind, name) for kind, name, _ in FULL.rows)
        self.assertIs(ahead.enough(FULL, start, pairs), True)
        for call, given in ((ahead.least_ahead, pairs[:6]),
                            (ahead.cheapest_ahead, tuple(pair + (GREAT,) for pair in pairs[:6]))):
            with self.assertRaises(NotEnough):
                call(FULL, start, given)
        self.assertEqual(ahead.least_ahead(DEEP, start, pairs[:8]), ((),))
        found = ahead.needed_round(FULL, start, pairs, ("h", "y"))
        self.assertIs(rounds.is_growing(FULL, found), True)
        self.assertEqual({pair for pair in found}, {("h", "y")})

    def test_great_clocks(self):
        start = Bag([(kind, GREAT) for kind in KINDS])
        clock = clocks.least_clock(DEEP, start)
        self.assertIs(clocks.is_good(DEEP, clock, start), True)
        self.assertEqual(clocks.hands_needed(DEEP, start), 8)
        self.assertEqual(len(clocks.any_way(DEEP, start)), 7)
        for call in (clocks.crowd, clocks.crowd_ends, clocks.longest, clocks.dearest):
            self.assertIsNone(call(DEEP, start))
        bare = Plan([row for row in DEEP.rows if row[1] == "y"])
        self.assertEqual(clocks.crowd(bare, Bag.of("1 a")), GREAT * (GREAT + 1) ** 6)
        self.assertGreater(clocks.dearest(bare, start), clocks.longest(bare, start))
        wide = Clock([(kind, Hands([10 ** 60] * 12)) for kind in KINDS])
        self.assertEqual(clocks.bound(wide, DEEP["a", "x"]).numbers, (1,) + (0,) * 12)
        self.assertEqual(wide.hands(start).numbers, (8 * 10 ** 90,) * 12)

    def test_readings_of_many_notices(self):
        start = Bag([(kind, GREAT) for kind in KINDS])
        clock = clocks.least_clock(DEEP, start)
        notice = DEEP.notice("a", "x", Bag([(kind, 10 ** 40) for kind in "bcd"]))
        held = (notice,) * 80
        self.assertLess(readings.reading(clock, start, held), clock.hands(start))
        self.assertEqual(readings.reading(clock, start, held) + 80 * readings.fall(clock, notice), clock.hands(start))
        self.assertEqual(readings.most_alive(DEEP, start, held), (None, "reached"))
        self.assertEqual(readings.most_cost(DEEP, start, held), (None, "reached"))


class TestSameResults(unittest.TestCase):
    """The same call returns an equal result, also with lists for tuples."""

    PLAN = plan_with(a_go="1 b 1 c", a_end="-", b_back="1 a", b_on=("-", "b"), c_end="-")

    def test_choices(self):
        for ahead in ((), [], (("b", "back"),), [["b", "back"]]):
            for kind in "abc":
                self.assertEqual(rounds.round_of(self.PLAN, kind, ahead=ahead),
                                 rounds.round_of(self.PLAN, kind, ahead=tuple(tuple(pair) for pair in ahead)))
        held = [self.PLAN.notice("a", "end"), self.PLAN.notice("c", "end")]
        start = Bag.of("1 a 1 c")
        for notices in (held, tuple(held)):
            self.assertEqual(books.twin(self.PLAN, start, notices), books.twin(self.PLAN, start, held, ahead=[]))
            self.assertEqual(runs.order_of(start, notices), runs.order_of(start, held))

    def test_results_are_tuples_of_tuples(self):
        for result in (rounds.sides(self.PLAN), rounds.round_of(self.PLAN, "a"), self.PLAN.rows,
                       books.books(Bag.of("1 a"), [])):
            self.assertIsInstance(result, tuple)
            for member in result:
                self.assertIsInstance(member, tuple)
        run = Run(Bag.of("1 a"), [self.PLAN.notice("a", "end")])
        for result in (rounds.leads(self.PLAN, "a"), rounds.ring(self.PLAN, "a"), rounds.unending(self.PLAN),
                       rounds.reached(self.PLAN, Bag()), runs.entered(Bag(), []), runs.late(run, []),
                       run.notices, books.met(Bag(), []), self.PLAN.outcomes("a"), self.PLAN.kinds):
            self.assertIsInstance(result, tuple)

    def test_results_of_clocks_and_of_what_is_told_ahead(self):
        one, plan = Bag.of("1 a"), plan_with(a_more=("-", "b"), a_end="-", b_end="-")
        clock = clocks.least_clock(plan, one)
        pairs = [["a", "go"], ["b", "back"], ["b", "on"]]
        for result in (ahead.least_ahead(self.PLAN, one, pairs), ahead.avoiding(self.PLAN, one, []),
                       ahead.needed_round(self.PLAN, one, pairs, pairs[2]), clocks.heavy(self.PLAN, one),
                       clocks.heavy_round(self.PLAN, one), clocks.any_way(plan, one),
                       clocks.crowd_ends(plan_with(a_two="2 b"), one)):
            self.assertIsInstance(result, tuple)
            self.assertNotEqual(result, ())
            for member in result:
                self.assertIsInstance(member, tuple)
        priced = [pair + [1] for pair in pairs]
        for result in (ahead.cheapest_ahead(self.PLAN, one, priced), ahead.cheapest_ahead(self.PLAN, one, priced)[0],
                       clock.kinds, clocks.breach(plan, Clock([]), one), readings.most_alive(plan, one, []),
                       readings.most_cost(plan, one, [])):
            self.assertIsInstance(result, tuple)


if __name__ == "__main__":
    unittest.main()
