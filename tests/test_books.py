"""toldlate/books.py: point [8] of DOC.md, and the guarantee (b) of [1]."""

import random
import unittest
from collections import Counter

from cases import NO_NAMES, Case, plan_with
from examples import run_examples
from oracles import (closed_books, growing_by, key, notices_by, pairs_of, random_bag, random_plan,
                     runs_with)
from toldlate import books as module
from toldlate.bags import Bag
from toldlate.books import books, closed, is_twin, met, sure, twin
from toldlate.errors import NoKind, NoOutcome, NoRun, Open
from toldlate.plans import Notice, Outcome, Plan
from toldlate.runs import Run, is_part, is_run, left

EXAMPLES = """
    >>> knot = Plan((("a", "end", Outcome()), ("a", "go", Outcome(Bag.of("1 g"))), ("g", "back", Outcome(Bag.of("1 a"))), ("g", "split", Outcome(Bag.of("2 g")))))
    >>> one, end = Bag.of("1 a"), knot.notice("a", "end")
    >>> books(one, (end,)), closed(one, (end,)), met(one, (end,)), sure(knot, one, (end,)), sure(knot, one, (end,), ahead=(("g", "split"),))
    ((), True, ('a',), False, True)
    >>> found = twin(knot, one, (end,))
    >>> is_part(found, (end,)), found.alive.jobs > 0, is_twin(knot, one, (end,), found), twin(knot, one, (end,), ahead=(("g", "split"),))
    (True, True, True, None)
    >>> done = Run(one, (knot.notice("a", "go"), knot.notice("g", "back"), end))
    >>> is_twin(knot, one, (end,), done), is_twin(knot, one, (end,), Run(one, (knot.notice("a", "go"),)))
    (False, False)
    >>> pages = Plan((("index", "all", Outcome(Bag(), ("page",))), ("page", "last", Outcome()), ("page", "next", Outcome(Bag.of("1 page")))))
    >>> site, all_three, last = Bag.of("1 index"), pages.notice("index", "all", Bag.of("3 page")), pages.notice("page", "last")
    >>> books(site, (last, all_three)), books(site, (last,)), sure(pages, site, (last, last, all_three, last)), twin(pages, site, (last, last, all_three, last))
    ((('page', 2),), (('index', 1), ('page', -1)), True, None)
    >>> twin(pages, site, (last,))
    raises Open(kind='index')
    >>> loop = Plan((("r", "end", Outcome()), ("r", "go", Outcome(Bag.of("1 x"))), ("x", "back", Outcome(Bag.of("1 r"))), ("x", "spin", Outcome(Bag.of("1 x"))), ("x", "split", Outcome(Bag.of("2 x")))))
    >>> held = (loop.notice("r", "end"), loop.notice("x", "spin"))
    >>> is_run(Bag.of("1 r"), held), sure(loop, Bag.of("1 r"), held), is_twin(loop, Bag.of("1 r"), held, twin(loop, Bag.of("1 r"), held)), sure(loop.without("x", "split"), Bag.of("1 r"), held)
    (False, False, True, True)
    >>> twin(loop.without("r", "go"), Bag.of("1 r"), held)
    raises NoRun(stray=('x',))
    >>> sure(loop, Bag(), ()), sure(loop, Bag.of("1 r"), ())
    (True, False)
    >>> hops = Plan((("r", "give", Outcome(Bag.of("1 z"))), ("r", "spin", Outcome(Bag.of("1 r 1 y"))), ("y", "end", Outcome()), ("y", "go", Outcome(Bag.of("1 z"))), ("z", "end", Outcome()), ("z", "hop", Outcome(Bag.of("1 r")))))
    >>> heard, hop = (hops.notice("y", "end"), hops.notice("z", "hop"), hops.notice("r", "give")), (("z", "hop"),)
    >>> is_twin(hops, Bag.of("1 y"), heard, twin(hops, Bag.of("1 y"), heard, ahead=hop), ahead=hop)
    True
    >>> twin(hops.without("y", "go"), Bag.of("1 y"), heard, ahead=hop)
    raises NoRun(stray=('r', 'z'))
"""

NAMES = ("books", "closed", "met", "sure", "twin", "is_twin")
MOST_MORE = 500


class TestExamples(unittest.TestCase):

    def test_examples_of_section_7(self):
        names = {name: getattr(module, name) for name in NAMES}
        run_examples(self, EXAMPLES, {
            **names, "Bag": Bag, "Notice": Notice, "Outcome": Outcome, "Plan": Plan, "Run": Run,
            "is_part": is_part, "is_run": is_run})

    def test_functions_are_defined_in_their_file(self):
        for name in NAMES:
            self.assertEqual(getattr(module, name).__module__, "toldlate.books")


class TestBooks(Case):

    PLAN = plan_with(a_two="2 b", a_end="-", b_on="1 c", b_end="-", c_end="-")

    def notices(self, words):
        return tuple(self.PLAN.notice(*word.split(".")) for word in words.split())

    def test_books(self):
        start = Bag.of("2 a")
        for words, expected in (
                ("", (("a", 2),)), ("a.end", (("a", 1),)), ("a.two", (("a", 1), ("b", 2))),
                ("b.end", (("a", 2), ("b", -1))), ("b.on b.on", (("a", 2), ("b", -2), ("c", 2))),
                ("b.end a.two c.end a.end b.on", ()), ("a.end a.end a.end c.end", (("a", -1), ("c", -1))),
                ("a.end a.end", ())):
            held = self.notices(words)
            for notices in (held, held[::-1], list(held)):
                self.assertEqual(books(start, notices), expected)
                self.assertIs(closed(start, notices), expected == ())
        self.assertEqual(repr(books(notices=[], start=start)), "(('a', 2),)")
        self.assertIs(closed(notices=[], start=Bag()), True)

    def test_books_without_a_start(self):
        self.assertEqual(books(Bag(), ()), ())
        self.assertEqual(books(Bag(), self.notices("b.on")), (("b", -1), ("c", 1)))

    def test_books_are_left_if_none_is_below_zero(self):
        rng = random.Random(21)
        for _ in range(300):
            notices = [Notice(rng.choice("abc"), "o", random_bag(rng, "abc")) for _ in range(rng.randint(0, 5))]
            start = random_bag(rng, "abc")
            numbers = books(start, notices)
            self.assertEqual([kind for kind, _ in numbers], sorted({kind for kind, _ in numbers}))
            self.assertNotIn(0, [number for _, number in numbers])
            if all(number > 0 for _, number in numbers):
                self.assertEqual(left(start, notices).pairs, numbers)

    def test_great_numbers(self):
        great = Notice("a", "o", Bag((("b", 10 ** 30),)))
        self.assertEqual(books(Bag.of("1 a"), (great, great, Notice("b", "o", Bag()))),
                         (("a", -1), ("b", 2 * 10 ** 30 - 1)))

    def test_met(self):
        self.assertEqual(met(Bag(), ()), ())
        self.assertEqual(met(Bag.of("2 a 1 c"), ()), ("a", "c"))
        self.assertEqual(met(Bag.of("1 a"), self.notices("b.on a.end")), ("a", "c"))
        self.assertEqual(met(notices=list(self.notices("a.two b.end b.end")), start=Bag.of("1 a")), ("a", "b"))
        self.assertEqual(met(Bag.of("1 z"), [Notice("a", "o", Bag((("b", 0), ("c", 1))))]), ("c", "z"))

    def test_an_end_of_a_kind_does_not_meet_it(self):
        self.assertEqual(met(Bag(), self.notices("b.end c.end")), ())


class TestSure(Case):

    def test_open_books_are_never_sure(self):
        plan = plan_with(a_end="-", b_end="-")
        self.assertIs(sure(plan, Bag.of("1 a"), ()), False)
        self.assertIs(sure(plan, Bag(), (plan.notice("b", "end"),)), False)

    def test_a_kind_that_only_leads_to_a_growing_one(self):
        plan = plan_with(a_end="-", a_go="1 g", g_end="-", g_two="2 g")
        end = plan.notice("a", "end")
        self.assertIs(sure(plan, Bag.of("1 a"), (end,)), True)
        self.assertEqual(twin(plan, Bag.of("1 a"), (end,)), None)
        met_too = (plan.notice("a", "go"), plan.notice("g", "end"))
        self.assertIs(sure(plan, Bag.of("1 a"), met_too), False)
        self.assertIs(is_twin(plan, Bag.of("1 a"), met_too, twin(plan, Bag.of("1 a"), met_too)), True)

    def test_a_start_without_jobs(self):
        plan = plan_with(a_two="2 a")
        self.assertIs(sure(plan, Bag(), ()), True)
        self.assertEqual(twin(plan, Bag(), ()), None)
        self.refused(NoRun, (("a",),), twin, plan_with(a_on="1 a"), Bag(), (Notice("a", "on", Bag.of("1 a")),))

    def test_ahead_takes_the_growth_away(self):
        plan = plan_with(a_end="-", a_two="2 a", a_on="1 a")
        one, end = Bag.of("1 a"), plan.notice("a", "end")
        for ahead, expected in (((), False), ((("a", "on"),), False), ((("a", "two"),), True),
                                ([["a", "two"]], True), ((("a", "on"), ("a", "two")), True)):
            self.assertIs(sure(plan, one, [end], ahead=ahead), expected)
            self.assertIs(twin(plan, one, [end], ahead=ahead) is None, expected)
        self.assertIs(sure(start=one, ahead=(("a", "two"),), plan=plan, notices=()), False)

    def test_outcomes_ahead_may_stand_among_the_notices(self):
        plan = plan_with(a_end="-", a_two="2 a")
        held, told = (plan.notice("a", "two"),) + (plan.notice("a", "end"),) * 2, (("a", "two"),)
        self.assertIs(sure(plan, Bag.of("1 a"), held, ahead=told), True)
        self.assertEqual(twin(plan, Bag.of("1 a"), held, ahead=told), None)


class TestTwin(Case):

    def check(self, plan, start, held, ahead=()):
        """Check a twin by the words of the document, without is_twin."""
        found = twin(plan, start, held, ahead=ahead)
        others = Counter(map(key, found.notices))
        others.subtract(Counter(map(key, held)))
        self.assertEqual(found.start, start)
        self.assertTrue(all(plan.fits(notice) for notice in found.notices))
        self.assertGreaterEqual(min(others.values()), 0)
        self.assertFalse({(kind, name) for (kind, name, _), many in others.items() if many} & set(ahead))
        self.assertGreater(found.alive.jobs, 0)
        self.assertLessEqual(len(found), len(held) + MOST_MORE)
        self.assertIs(is_twin(plan, start, held, found, ahead=ahead), True)
        again = twin(ahead=[list(pair) for pair in ahead], notices=list(held), start=start, plan=plan)
        self.assertEqual(again, found)
        return found

    def test_the_guarantee_by_all_small_runs(self):
        """Closed books are those of no run, or all is done in all runs, or there is a twin."""
        rng = random.Random(22)
        answers = Counter()
        for _ in range(1500):
            plan = random_plan(rng, 3, 6)
            ahead = tuple(pair for pair in pairs_of(plan) if rng.random() < 0.25)
            pool = notices_by(plan, pairs_of(plan), 2)
            start = Bag([(rng.choice(plan.kinds), 1) for _ in range(rng.choice((0, 1, 1, 2)))])
            held = closed_books(rng, start, pool, [], 5)
            beside = closed_books(rng, Bag(), pool, [rng.choice(pool)], 3) or []
            if held is None:
                continue
            held += beside if rng.random() < 0.5 else []
            rng.shuffle(held)
            said = runs_with(plan, start, held, ahead, 4)
            if said is not None:
                answers[self.compare(plan, start, held, ahead, said)] += 1
        self.assertGreater(min(answers[word] for word in ("no run", "twin", "sure")), 30, answers)

    def compare(self, plan, start, held, ahead, said):
        growing = set(met(start, held)) & growing_by(plan, ahead)
        self.assertIs(sure(plan, start, held, ahead=ahead), not growing)
        try:
            found = twin(plan, start, held, ahead=ahead)
        except NoRun as error:
            self.assertFalse(said)
            self.assertEqual(error.stray, tuple(sorted(set(error.stray))))
            self.assertTrue(set(error.stray) <= {notice.kind for notice in held})
            self.assertTrue(error.stray)
            return "no run"
        self.assertIs(found is None, not growing)
        if found is None:
            self.assertEqual(said, {"all is done"})
            return "sure"
        self.check(plan, start, held, ahead)
        return "twin"

    def test_open_books(self):
        plan = plan_with(a_end="-", b_end="-", g_two="2 g")
        self.refused(Open, ("a",), twin, plan, Bag.of("1 a 1 b 1 g"), ())
        self.refused(Open, ("b",), twin, plan, Bag.of("1 a"), (plan.notice("b", "end"), plan.notice("a", "end")))
        self.refused(Open, ("g",), twin, plan, Bag.of("1 g"), (), ahead=(("g", "two"),))

    def test_notices_that_are_no_run_by_themselves(self):
        plan = plan_with(r_end="-", r_go="1 x", x_back="1 r", x_spin="1 x", x_split="2 x")
        held = (plan.notice("x", "spin"), plan.notice("r", "end"))
        self.assertIs(is_run(Bag.of("1 r"), held), False)
        self.check(plan, Bag.of("1 r"), held)
        for gone in (("r", "go"), ("x", "back")):
            self.refused(NoRun, (("x",),), twin, plan.without(*gone), Bag.of("1 r"), held)
            self.refused(NoRun, (("x",),), twin, plan, Bag.of("1 r"), held, ahead=(gone,))

    def test_no_run_comes_ahead_of_none(self):
        plan = plan_with(r_end="-", x_spin="1 x")
        held = (plan.notice("x", "spin"), plan.notice("r", "end"))
        self.refused(NoRun, (("x",),), twin, plan, Bag.of("1 r"), held)
        self.assertIs(sure(plan, Bag.of("1 r"), held), True)

    def test_a_run_without_growth_that_needs_late_ends(self):
        plan = plan_with(r_end="-", r_go="1 x", x_back="1 r", x_spin="1 x")
        held = (plan.notice("x", "spin"), plan.notice("r", "end"))
        self.assertIs(is_run(Bag.of("1 r"), held), False)
        self.assertEqual(twin(plan, Bag.of("1 r"), held), None)

    def test_a_side_makes_the_kind_that_is_entered(self):
        plan = plan_with(r_end="-", r_more="1 r 1 y", y_spin="1 y", y_end="-")
        held = (plan.notice("y", "spin"), plan.notice("r", "end"))
        self.check(plan, Bag.of("1 r"), held)
        self.refused(NoRun, (("y",),), twin, plan, Bag.of("1 r"), held, ahead=(("r", "more"),))

    def test_what_spare_jobs_make_is_entered(self):
        plan = plan_with(r_end="-", r_more="1 r 1 y", y_on="1 z", z_on=("-", "w"), w_spin="1 w")
        held = (plan.notice("w", "spin"), plan.notice("r", "end"))
        self.check(plan, Bag.of("1 r"), held)
        self.refused(NoRun, (("w",),), twin, plan, Bag.of("1 r"), held, ahead=(("z", "on"),))

    def test_jobs_that_are_not_spare_open_nothing(self):
        plan = plan_with(y_end="-", y_go="1 z", z_end="-", z_spin="1 z", r_more="1 r 1 y")
        held = (plan.notice("y", "end"), plan.notice("z", "spin"))
        self.refused(NoRun, (("z",),), twin, plan, Bag.of("1 y"), held)
        self.refused(NoRun, (("r", "z"),), twin, plan, Bag.of("1 y"), held + (plan.notice("r", "more"),
                                                                          plan.notice("y", "end")))

    def test_spare_jobs_of_the_ring_itself(self):
        for more in ("2 r", "1 q 1 r", ("1 r", "r"), ("-", "r")):
            plan = plan_with(r_more=more, q_back="1 r", r_out="1 z", z_spin="1 z", r_end="-")
            held = (plan.notice("z", "spin"), plan.notice("r", "end"))
            self.check(plan, Bag.of("1 r"), held)
        for more in ("1 r", "1 r 1 y", ("1 r", "y"), ("1 y", "y")):
            plan = plan_with(r_more=more, y_end="-", r_out="1 z", z_spin="1 z", r_end="-")
            held = (plan.notice("z", "spin"), plan.notice("r", "end"))
            self.refused(NoRun, (("z",),), twin, plan, Bag.of("1 r"), held)

    def test_rings_that_need_each_other(self):
        plan = plan_with(r_give="1 z", r_spin="1 r 1 y", y_end="-", y_go="1 z", z_end="-", z_hop="1 r")
        held = (plan.notice("y", "end"), plan.notice("z", "hop"), plan.notice("r", "give"))
        self.check(plan, Bag.of("1 y"), held, (("z", "hop"),))
        self.refused(NoRun, (("r", "z"),), twin, plan.without("y", "go"), Bag.of("1 y"), held,
                     ahead=(("z", "hop"),))
        self.refused(NoRun, (("r", "z"),), twin, plan, Bag.of("1 y"), held, ahead=(("y", "go"), ("z", "hop")))
        self.refused(NoRun, (("r", "z"),), twin, plan, Bag.of("1 y"), held, ahead=(("r", "spin"), ("z", "hop")))

    def test_rings_that_are_given_up_one_by_one(self):
        plan = plan_with(s_on="1 s 1 t", t_to="1 r", r_on="1 r 1 y", y_to="1 w", w_spin="1 w", y_end="-",
                         s_end="-", r_end="-", t_end="-")
        spin, end = plan.notice("w", "spin"), plan.notice("y", "end")
        self.refused(NoRun, (("w",),), twin, plan, Bag.of("1 y"), (spin, end))
        self.check(plan, Bag.of("1 s 1 y"), (spin, end, plan.notice("s", "end")))
        self.check(plan, Bag.of("1 r 1 y"), (spin, end, plan.notice("r", "end")))
        self.refused(NoRun, (("w",),), twin, plan, Bag.of("1 t 1 y"), (spin, end, plan.notice("t", "end")))

    def test_outcomes_ahead_that_are_held_lead_on(self):
        plan = plan_with(a_go="1 g", a_end="-", g_two="2 g", g_end="-")
        held = (plan.notice("a", "go"), plan.notice("g", "end"))
        self.check(plan, Bag.of("1 a"), held, (("a", "go"),))
        self.assertEqual(twin(plan, Bag.of("1 a"), held, ahead=(("a", "go"), ("g", "two"))), None)

    def test_no_notices(self):
        plan = plan_with(a_two="2 a")
        self.assertEqual(twin(plan, Bag(), ()), None)
        self.refused(Open, ("a",), twin, plan, Bag.of("1 a"), ())

    def test_numbers_of_any_size(self):
        great = 10 ** 30
        plan = plan_with(a_more=(f"{great} a", "b"), a_end="-", b_end="-")
        self.check(plan, Bag.of("2 a"), (plan.notice("a", "end"),) * 2)
        start = Bag((("a", 1), ("b", great)))
        self.refused(Open, ("b",), twin, plan, start, (plan.notice("a", "end"),))

    def test_sixty_notices_and_full_plans(self):
        kinds = "abcdefgh"
        chain = {kind + "_on": "1 " + after for kind, after in zip("bcdefg", "cdefgh")}
        plan = plan_with(a_more="1 a 1 b", a_end="-", b_end="-", h_spin="1 h", h_up=("-", "a"), **chain)
        held = (plan.notice("h", "spin"),) * 57 + (plan.notice("a", "end"),) * 2 + (plan.notice("b", "end"),)
        for ahead in ((), (("h", "up"),), (("b", "on"),)):
            start = Bag.of("2 a 1 b")
            if ahead == (("b", "on"),):
                self.refused(NoRun, (("h",),), twin, plan, start, held, ahead=ahead)
            else:
                self.check(plan, start, held, ahead)
        full = Plan([(kind, name, Outcome(Bag([(made, 10 ** 30) for made in kinds]), kinds[:3]))
                     for kind in kinds for name in ("x", "y")] + [("a", "end", Outcome())])
        self.check(full, Bag.of("1 a"), (full.notice("a", "end"),))

    def test_arguments_are_not_changed(self):
        plan = plan_with(a_end="-", a_two="2 a", b_on="1 b")
        held, ahead = [plan.notice("a", "end")], [["b", "on"]]
        twin(plan, Bag.of("1 a"), held, ahead=ahead)
        self.assertEqual((held, ahead), ([plan.notice("a", "end")], [["b", "on"]]))


class TestIsTwin(Case):

    PLAN = plan_with(a_end="-", a_go="1 b", a_two="2 a", b_end="-", b_more=("1 b", "c"))
    ONE = Bag.of("1 a")

    def run_of(self, words, start=ONE):
        return Run(start, tuple(self.PLAN.notice(*word.split(".")) for word in words.split()))

    def held(self, words):
        return tuple(self.PLAN.notice(*word.split(".")) for word in words.split())

    def test_it_is_one(self):
        for held, words in (("", ""), ("a.end", "a.two a.end"), ("a.end a.two", "a.two a.end"),
                            ("b.end", "a.two a.go b.end"), ("a.end a.end", "a.two a.two a.end a.end"),
                            ("", "a.go b.more")):
            self.assertIs(is_twin(self.PLAN, self.ONE, self.held(held), self.run_of(words)), True)
            self.assertIs(is_twin(run=self.run_of(words), notices=list(self.held(held)), start=self.ONE,
                                  plan=self.PLAN, ahead=()), True)

    def test_nothing_lives_behind_it(self):
        self.assertIs(is_twin(self.PLAN, self.ONE, self.held("a.end"), self.run_of("a.end")), False)
        self.assertIs(is_twin(self.PLAN, Bag(), (), Run(Bag())), False)

    def test_it_lacks_a_notice_that_is_held(self):
        for held in ("b.end", "a.end a.end", "a.two a.two", "a.end a.two a.go"):
            self.assertIs(is_twin(self.PLAN, self.ONE, self.held(held), self.run_of("a.two a.end")), False)

    def test_it_begins_elsewhere(self):
        run = self.run_of("a.two a.end", Bag.of("2 a"))
        self.assertIs(is_twin(self.PLAN, self.ONE, self.held("a.end"), run), False)
        self.assertIs(is_twin(self.PLAN, Bag.of("2 a"), self.held("a.end"), run), True)

    def test_outcomes_ahead(self):
        run = self.run_of("a.two a.two a.end")
        for held, ahead, expected in (
                ("a.end", (), True), ("a.end", (("a", "two"),), False), ("a.end a.two", (("a", "two"),), False),
                ("a.end a.two a.two", (("a", "two"),), True), ("a.end", (("a", "end"),), True),
                ("", [["a", "end"]], False), ("a.end", (("a", "go"), ("b", "end")), True)):
            self.assertIs(is_twin(self.PLAN, self.ONE, self.held(held), run, ahead=ahead), expected)

    def test_notices_that_do_not_fit_the_plan(self):
        for wrong in (Notice("a", "no", Bag.of("1 a")), Notice("a", "go", Bag.of("2 b")),
                      Notice("a", "go", Bag()), Notice("a", "end", Bag.of("1 z"))):
            run = Run(Bag.of("2 a"), (wrong,))
            for held in ((), (wrong,)):
                self.assertIs(is_twin(self.PLAN, Bag.of("2 a"), held, run), False)
        self.assertIs(is_twin(self.PLAN, self.ONE, (Notice("z", "z", Bag()),), self.run_of("a.two")), False)

    def test_any_numbers_fit(self):
        run = Run(self.ONE, (self.PLAN.notice("a", "go"), self.PLAN.notice("b", "more", Bag.of("9 c"))))
        self.assertIs(is_twin(self.PLAN, self.ONE, (), run), True)

    def test_whatever_the_books_say_and_whatever_its_length(self):
        self.assertIs(is_twin(self.PLAN, self.ONE, (), self.run_of("a.two " * 700)), True)
        self.assertIs(is_twin(self.PLAN, self.ONE, self.held("b.end"), self.run_of("a.two a.go b.end")), True)


class TestRefusedArguments(Case):

    PLAN = plan_with(a_end="-", a_go="1 b", b_two="2 b")

    def calls(self, start, ahead):
        run = Run(start)
        return ((sure, (self.PLAN, start, ()), {"ahead": ahead}), (twin, (self.PLAN, start, ()), {"ahead": ahead}),
                (is_twin, (self.PLAN, start, (), run), {"ahead": ahead}))

    def test_kinds_of_the_start(self):
        for ahead in ((), (("a", "no"),)):
            for call, arguments, named in self.calls(Bag.of("1 aa 1 b 3 c"), ahead):
                self.refused(NoKind, ("aa",), call, *arguments, **named)
        for call, arguments, named in self.calls(Bag.of("1 z"), ()):
            self.refused(NoKind, ("z",), call, *arguments, **named)

    def test_pairs_of_ahead(self):
        for value in NO_NAMES + ("z",):
            for pair in ((value, "go"), ("a", value), ("b", value)):
                for ahead in ((pair,), [["a", "go"], list(pair), ["z", "z"]]):
                    for call, arguments, named in self.calls(Bag.of("1 a"), ahead):
                        self.refused(NoOutcome, pair, call, *arguments, **named)

    def test_ahead_is_passed_by_name_alone(self):
        for call, arguments, _ in self.calls(Bag(), ()):
            with self.assertRaises(TypeError):
                call(*arguments, ())


if __name__ == "__main__":
    unittest.main()
