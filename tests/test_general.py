"""Points [2], [3] and [16] of DOC.md, which hold of the whole program."""

import doctest
import inspect
import pathlib
import random
import unittest
from collections import Counter

from cases import plan_with
from searches import layered_plan, random_run, random_start
from toldlate import (ahead, bags, books, changes, clocks, desk, duels, hands, plans, readings, rounds, runs,
                      texts)
from toldlate.bags import Bag
from toldlate.clocks import Clock
from toldlate.duels import Duel
from toldlate.errors import NotEnough
from toldlate.hands import Hands, hand
from toldlate.plans import Notice, Outcome, Plan
from toldlate.runs import Run

FUNCTIONS = {
    hands: ("hand(place, count=1)",),
    rounds: (
        "leads(plan, kind)", "ring(plan, kind)", "reached(plan, start)", "unending(plan)",
        "sides(plan, *, ahead=())", "grows(plan, kind, *, ahead=())", "round_of(plan, kind, *, ahead=())",
        "is_round(plan, thing)", "is_growing(plan, thing)"),
    runs: (
        "left(start, notices)", "entered(start, notices)", "is_run(start, notices)", "order_of(start, notices)",
        "why_no_run(start, notices)", "is_part(run, notices)", "late(run, notices)"),
    books: (
        "books(start, notices)", "closed(start, notices)", "met(start, notices)",
        "sure(plan, start, notices, *, ahead=())", "twin(plan, start, notices, *, ahead=())",
        "is_twin(plan, start, notices, run, *, ahead=())"),
    ahead: (
        "enough(plan, start, ahead)", "avoiding(plan, start, ahead)", "least_ahead(plan, start, candidates)",
        "cheapest_ahead(plan, start, prices)", "needed_round(plan, start, ahead, member)"),
    clocks: (
        "is_good(plan, clock, start)", "breach(plan, clock, start)", "heavy(plan, start)", "heavy_round(plan, start)",
        "bound(clock, outcome)", "least_clock(plan, start, *, costs=True)", "hands_needed(plan, start)",
        "any_way(plan, start)", "crowd(plan, start)", "crowd_ends(plan, start)", "longest(plan, start)",
        "dearest(plan, start)"),
    readings: (
        "fall(clock, notice)", "reading(clock, start, notices)", "most_alive(plan, start, notices)",
        "most_cost(plan, start, notices)"),
    duels: (),
    changes: (
        "spared(plan, clock, start)", "slack(plan, start)", "alike(plan, other, start)", "compared(plan, bag, other)",
        "put_word(plan, start, kind, name, outcome)", "out_word(plan, start, kind, name)"),
    desk: (),
    texts: (
        "outcome_text(outcome)", "plan_text(plan)", "notices_text(notices)", "outcome_of(text)", "plan_of(text)",
        "notices_of(text)"),
}

# Bag() as a default value is written None where LANGUAGE.md allows plain ones alone.
METHODS = {
    bags.Bag: ("__init__(self, pairs=())", "within(self, other)", "of(text)"),
    hands.Hands: ("__init__(self, numbers=())", "cut(self)", "of(text)"),
    plans.Outcome: ("__init__(self, makes=None, more=(), cost=0)",),
    plans.Notice: ("__init__(self, kind, outcome, made)",),
    plans.Plan: (
        "__init__(self, rows=())", "outcomes(self, kind)", "put(self, kind, name, outcome)",
        "without(self, kind, name)", "notice(self, kind, name, chosen=None)", "fits(self, notice)"),
    runs.Run: ("__init__(self, start, notices=())", "first(self, many)"),
    clocks.Clock: ("__init__(self, pairs)", "hands(self, bag)"),
    duels.Duel: (
        "__init__(self, plan, start, first)", "next_end(self)", "answer(self, hands)", "play(self, keeper, most)"),
    desk.Desk: (
        "__init__(self, plan, start, ahead=())", "hear(self, notice)", "attempt(self, notices)",
        "put(self, kind, name, outcome)", "without(self, kind, name)", "back(self)", "books(self)", "closed(self)",
        "sure(self)", "twin_run(self)", "reading(self)", "shown(self)", "most_alive(self)", "copied(self)"),
}

OPERATORS = {
    bags.Bag: ("__getitem__", "__contains__", "__len__", "__add__", "__sub__", "__mul__", "__rmul__", "__eq__"),
    hands.Hands: ("__lt__", "__le__", "__gt__", "__ge__", "__eq__", "__add__", "__sub__", "__mul__", "__rmul__"),
    plans.Outcome: ("__eq__",), plans.Notice: ("__eq__",),
    plans.Plan: ("__getitem__", "__contains__", "__len__", "__or__", "__eq__"),
    runs.Run: ("__len__", "__add__", "__eq__"), clocks.Clock: ("__getitem__", "__contains__", "__eq__"),
    desk.Desk: ("__len__", "__iadd__"),
}

PROPERTIES = {
    bags.Bag: ("pairs", "kinds", "jobs", "text"), hands.Hands: ("numbers", "places", "plain", "text"),
    plans.Outcome: ("makes", "more", "cost"), plans.Plan: ("rows", "kinds"),
    runs.Run: ("start", "notices", "alive", "peak"), clocks.Clock: ("kinds",),
    duels.Duel: ("plan", "start", "now", "alive", "ends", "price", "beaten"),
    desk.Desk: ("plan", "start", "ahead", "heard"),
}

README = pathlib.Path(__file__).resolve().parent.parent / "README.md"
KINDS = "abcdefgh"
FULL = Plan([(kind, name, Outcome(Bag([(made, 10 ** 30) for made in KINDS]), KINDS[:3], 10 ** 30))
             for kind in KINDS for name in ("x", "y")])
# No outcome of this one is heavy: each kind makes great numbers of all that stand behind it.
GREAT = 10 ** 30
DEEP = Plan([(kind, name, Outcome(Bag([(made, GREAT) for made in KINDS[at + 1:]]), more, GREAT))
             for at, kind in enumerate(KINDS) for name, more in (("x", KINDS[at + 1:at + 4]), ("y", ()))])


class TestInterface(unittest.TestCase):

    def test_functions(self):
        for module, heads in FUNCTIONS.items():
            for head in heads:
                own = getattr(module, head.partition("(")[0])
                self.assertEqual(own.__name__ + str(inspect.signature(own)), head)
                self.assertEqual(own.__module__, module.__name__)

    def test_methods_are_defined_in_the_class_itself(self):
        for owner, heads in METHODS.items():
            for head in heads:
                name = head.partition("(")[0]
                self.assertIn(name, vars(owner))
                self.assertEqual(name + str(inspect.signature(getattr(owner, name))), head)

    def test_classes_stand_in_their_files(self):
        for module, owner in ((bags, "Bag"), (hands, "Hands"), (plans, "Outcome"), (plans, "Notice"), (plans, "Plan"),
                              (runs, "Run"), (clocks, "Clock"), (duels, "Duel"), (desk, "Desk")):
            self.assertEqual(getattr(module, owner).__module__, module.__name__)
            self.assertEqual(getattr(module, owner).__bases__, (object,))

    def test_operators_are_defined_in_the_class_itself(self):
        for owner, names in OPERATORS.items():
            for name in names:
                self.assertIn(name, vars(owner))

    def test_properties_have_no_setters(self):
        for owner, names in PROPERTIES.items():
            for name in names:
                self.assertIsInstance(vars(owner)[name], property)
                self.assertIsNone(vars(owner)[name].fset)

    def test_attributes_of_a_notice(self):
        self.assertEqual(sorted(vars(Notice("a", "b", Bag()))), ["kind", "made", "outcome"])

    def test_examples_of_the_readme(self):
        failed, tried = doctest.testfile(str(README), module_relative=False)
        self.assertEqual(failed, 0)
        self.assertGreater(tried, 0)


class TestBounds(unittest.TestCase):
    """The greatest arguments of [3], and somewhat greater ones."""

    def test_full_plans(self):
        self.assertEqual((len(FULL), FULL.kinds), (16, tuple(KINDS)))
        for kind in KINDS:
            self.assertEqual(rounds.ring(FULL, kind), tuple(KINDS))
            self.assertIs(rounds.is_growing(FULL, rounds.round_of(FULL, kind)), True)
        self.assertEqual(len(rounds.sides(FULL)), 16)
        self.assertEqual(rounds.unending(FULL), tuple(KINDS))

    def test_larger_plans(self):
        kinds = [one + two for one in "abc" for two in "abcd"]
        rows = [(kind, name, Outcome(Bag(((after, 1),)))) for kind, after in zip(kinds, kinds[1:] + kinds[:1])
                for name in ("x", "y")]
        plan = Plan(rows).put("aa", "more", Outcome(Bag(), kinds[:5]))
        self.assertEqual(rounds.ring(plan, "cd"), tuple(kinds))
        self.assertLess(len(rounds.round_of(plan, "cd")), 24)

    def test_starts_with_other_kinds(self):
        start = Bag([(kind, 10 ** 30) for kind in KINDS + "wxyz"])
        self.assertEqual(len(books.books(start, ())), 12)
        self.assertEqual(books.met(start, ()), tuple(KINDS + "wxyz"))
        self.assertEqual(Run(start).peak, 12 * 10 ** 30)

    def test_many_notices(self):
        notice = FULL.notice("a", "x", Bag.of("5 b"))
        run = Run(Bag.of("1 a"), (notice,) * 90)
        self.assertEqual(runs.order_of(Bag.of("1 a"), (notice,) * 90), run)
        self.assertEqual(run.alive["b"], 90 * (10 ** 30 + 5))
        self.assertEqual(len(runs.late(run, (notice,) * 30)), 60)

    def test_many_candidates_and_prices(self):
        start = Bag([(kind, GREAT) for kind in KINDS])
        pairs = tuple((kind, name) for kind, name, _ in FULL.rows)
        self.assertIs(ahead.enough(FULL, start, pairs), True)
        for call, given in ((ahead.least_ahead, pairs[:6]),
                            (ahead.cheapest_ahead, tuple(pair + (GREAT,) for pair in pairs[:6]))):
            with self.assertRaises(NotEnough):
                call(FULL, start, given)
        self.assertEqual(ahead.least_ahead(DEEP, start, pairs[:8]), ((),))
        found = ahead.needed_round(FULL, start, pairs, ("h", "y"))
        self.assertIs(rounds.is_growing(FULL, found), True)
        self.assertEqual({pair for pair in found}, {("h", "y")})

    def test_great_clocks(self):
        start = Bag([(kind, GREAT) for kind in KINDS])
        clock = clocks.least_clock(DEEP, start)
        self.assertIs(clocks.is_good(DEEP, clock, start), True)
        self.assertEqual(clocks.hands_needed(DEEP, start), 8)
        self.assertEqual(len(clocks.any_way(DEEP, start)), 7)
        for call in (clocks.crowd, clocks.crowd_ends, clocks.longest, clocks.dearest):
            self.assertIsNone(call(DEEP, start))
        bare = Plan([row for row in DEEP.rows if row[1] == "y"])
        self.assertEqual(clocks.crowd(bare, Bag.of("1 a")), GREAT * (GREAT + 1) ** 6)
        self.assertGreater(clocks.dearest(bare, start), clocks.longest(bare, start))
        wide = Clock([(kind, Hands([10 ** 60] * 12)) for kind in KINDS])
        self.assertEqual(clocks.bound(wide, DEEP["a", "x"]).numbers, (1,) + (0,) * 12)
        self.assertEqual(wide.hands(start).numbers, (8 * 10 ** 90,) * 12)

    def test_readings_of_many_notices(self):
        start = Bag([(kind, GREAT) for kind in KINDS])
        clock = clocks.least_clock(DEEP, start)
        notice = DEEP.notice("a", "x", Bag([(kind, 10 ** 40) for kind in "bcd"]))
        held = (notice,) * 80
        self.assertLess(readings.reading(clock, start, held), clock.hands(start))
        self.assertEqual(readings.reading(clock, start, held) + 80 * readings.fall(clock, notice), clock.hands(start))
        self.assertEqual(readings.most_alive(DEEP, start, held), (None, "reached"))
        self.assertEqual(readings.most_cost(DEEP, start, held), (None, "reached"))

    def test_duels_of_great_plans(self):
        ending = Plan(list(DEEP.rows) + [(kind, "z", Outcome()) for kind in KINDS])
        start = Bag([(kind, GREAT) for kind in KINDS])
        duel = Duel(ending, start, Hands([GREAT - 1] + [10 ** 60] * 7))
        self.assertEqual(duel.next_end().kind, "h")
        self.assertEqual(duel.play(lambda end, price, now: now - hand(0, price), 400), 400)
        self.assertEqual(duel.alive["h"], GREAT - 400)

    def test_changes_of_great_plans(self):
        start = Bag([(kind, GREAT) for kind in KINDS])
        clock = clocks.least_clock(DEEP, start)
        self.assertEqual(changes.spared(DEEP, clock, start), ())
        self.assertEqual(changes.slack(DEEP, start), tuple((kind, "y") for kind in KINDS[:-1]))
        self.assertIs(changes.alike(DEEP, DEEP, start), True)
        self.assertEqual(changes.compared(DEEP, start, start * GREAT), "less")
        self.assertEqual(changes.put_word(DEEP, start, "h", "z", Outcome(cost=2 * GREAT)), "greater")
        self.assertEqual(changes.out_word(DEEP, start, "a", "x"), "less")

    def test_a_desk_with_many_notices_and_deeds(self):
        own = desk.Desk(DEEP, Bag([(kind, GREAT) for kind in KINDS]), [[kind, "x"] for kind in KINDS])
        for many in range(70):
            own += DEEP.notice("a", "y")
        self.assertEqual((len(own), own.closed(), own.sure()), (70, False, False))
        self.assertLess(own.shown(), clocks.least_clock(DEEP, own.start).hands(own.start))
        self.assertEqual(len(own.books()), 8)

    def test_great_texts(self):
        self.assertEqual(texts.plan_of(texts.plan_text(DEEP)), DEEP)
        held = (FULL.notice("a", "x"),) * 70
        self.assertEqual(texts.notices_of(texts.notices_text(held)), held)


class TestGuarantees(unittest.TestCase):
    """(a) to (f) of [1], one by one, on plans by chance: what is said of a run is so."""

    def test_all_of_them(self):
        rng, said = random.Random(111), Counter()
        for _ in range(200):
            plan = layered_plan(rng, 4)
            if rng.random() < 0.4:
                plan = plan.put(rng.choice(plan.kinds), "grow", Outcome(Bag([(kind, 1) for kind in plan.kinds])))
            start = random_start(rng, plan, 2)
            run = Run(start, random_run(rng, plan, start, 10))
            mixed = list(run.notices)
            rng.shuffle(mixed)
            self.assertEqual(runs.order_of(start, mixed).alive, run.alive)
            self.check_books(plan, start, run, mixed, said)
            self.check_clock(plan, start, run, mixed, said)
        self.assertGreater(min(said[word] for word in ("sure", "twin", "heavy", "duel")), 10, said)

    def check_books(self, plan, start, run, held, said):
        if not books.closed(start, held):
            return
        if books.sure(plan, start, held):
            said["sure"] += 1
            self.assertEqual(run.alive, Bag())
        else:
            said["twin"] += 1
            self.assertIs(books.is_twin(plan, start, held, books.twin(plan, start, held)), True)
            self.assertIs(ahead.enough(plan, start, ()), False)

    def check_clock(self, plan, start, run, held, said):
        if clocks.heavy(plan, start):
            said["heavy"] += 1
            self.assertIs(rounds.is_round(plan, clocks.heavy_round(plan, start)), True)
            return
        clock = clocks.least_clock(plan, start)
        shown = [readings.reading(clock, start, held[:many]) for many in range(len(held) + 1)]
        self.assertTrue(all(after <= before for before, after in zip(shown, shown[1:])))
        self.assertEqual(shown[-1] == Hands(), run.alive == Bag())
        if start.jobs:
            said["duel"] += 1
            own = Duel(plan, start, Hands())
            own.play(lambda end, price, now: now, 99)
            self.assertIs(own.beaten, True)


class TestSameResults(unittest.TestCase):
    """The same call returns an equal result, also with lists for tuples."""

    PLAN = plan_with(a_go="1 b 1 c", a_end="-", b_back="1 a", b_on=("-", "b"), c_end="-")

    def test_choices(self):
        for ahead in ((), [], (("b", "back"),), [["b", "back"]]):
            for kind in "abc":
                self.assertEqual(rounds.round_of(self.PLAN, kind, ahead=ahead),
                                 rounds.round_of(self.PLAN, kind, ahead=tuple(tuple(pair) for pair in ahead)))
        held = [self.PLAN.notice("a", "end"), self.PLAN.notice("c", "end")]
        start = Bag.of("1 a 1 c")
        for notices in (held, tuple(held)):
            self.assertEqual(books.twin(self.PLAN, start, notices), books.twin(self.PLAN, start, held, ahead=[]))
            self.assertEqual(runs.order_of(start, notices), runs.order_of(start, held))

    def test_results_are_tuples_of_tuples(self):
        for result in (rounds.sides(self.PLAN), rounds.round_of(self.PLAN, "a"), self.PLAN.rows,
                       books.books(Bag.of("1 a"), [])):
            self.assertIsInstance(result, tuple)
            for member in result:
                self.assertIsInstance(member, tuple)
        run = Run(Bag.of("1 a"), [self.PLAN.notice("a", "end")])
        for result in (rounds.leads(self.PLAN, "a"), rounds.ring(self.PLAN, "a"), rounds.unending(self.PLAN),
                       rounds.reached(self.PLAN, Bag()), runs.entered(Bag(), []), runs.late(run, []),
                       run.notices, books.met(Bag(), []), self.PLAN.outcomes("a"), self.PLAN.kinds):
            self.assertIsInstance(result, tuple)

    def test_results_of_clocks_and_of_what_is_told_ahead(self):
        one, plan = Bag.of("1 a"), plan_with(a_more=("-", "b"), a_end="-", b_end="-")
        clock = clocks.least_clock(plan, one)
        pairs = [["a", "go"], ["b", "back"], ["b", "on"]]
        for result in (ahead.least_ahead(self.PLAN, one, pairs), ahead.avoiding(self.PLAN, one, []),
                       ahead.needed_round(self.PLAN, one, pairs, pairs[2]), clocks.heavy(self.PLAN, one),
                       clocks.heavy_round(self.PLAN, one), clocks.any_way(plan, one),
                       clocks.crowd_ends(plan_with(a_two="2 b"), one)):
            self.assertIsInstance(result, tuple)
            self.assertNotEqual(result, ())
            for member in result:
                self.assertIsInstance(member, tuple)
        priced = [pair + [1] for pair in pairs]
        for result in (ahead.cheapest_ahead(self.PLAN, one, priced), ahead.cheapest_ahead(self.PLAN, one, priced)[0],
                       clock.kinds, clocks.breach(plan, Clock([]), one), readings.most_alive(plan, one, []),
                       readings.most_cost(plan, one, [])):
            self.assertIsInstance(result, tuple)

    def test_results_of_duels_changes_desks_and_texts(self):
        plan, one = plan_with(a_go="2 b", a_on="1 b", b_end="-"), Bag.of("1 a")
        own = desk.Desk(plan, one, [["a", "go"]])
        own.attempt([plan.notice("a", "on")])
        duel = Duel(plan, one, hand(0))
        duel.answer(hand(0))
        for result in (own.heard, own.ahead, own.books(), own.most_alive(), duel.ends, changes.slack(plan, one),
                       changes.spared(plan, clocks.least_clock(plan, one), one), texts.notices_of("a on: 1 b")):
            self.assertIsInstance(result, tuple)
            self.assertNotEqual(result, ())
        self.assertEqual(own.ahead, (("a", "go"),))


if __name__ == "__main__":
    unittest.main()
