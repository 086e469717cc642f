"""toldlate/readings.py: point [11] of DOC.md, and the guarantee (e) of [1]."""

import random
import unittest
from collections import Counter

from cases import Case, plan_with
from examples import run_examples
from searches import cost_behind, costly_plan, crowd_behind, end_of, layered_plan, random_run, random_start
from toldlate import readings as module
from toldlate.bags import Bag
from toldlate.clocks import Clock, crowd, dearest, least_clock
from toldlate.errors import BelowZero, NoKind
from toldlate.hands import Hands, hand
from toldlate.plans import Notice, Outcome, Plan
from toldlate.readings import fall, most_alive, most_cost, reading
from toldlate.runs import is_run, left

# The first lines are those of section 9, to which these examples refer.
EXAMPLES = r"""
    >>> crawl = Plan((("image", "done", Outcome()), ("index", "split", Outcome(more=("page",))), ("note", "done", Outcome(cost=3)), ("page", "done", Outcome(Bag((("note", 2),)), more=("image",))), ("page", "gone", Outcome())))
    >>> start = Bag((("index", 1), ("note", 2)))
    >>> clock = least_clock(crawl, start)
    >>> pages = Plan((("page", "last", Outcome()), ("page", "next", Outcome(Bag((("page", 1),))))))
    >>> twice = pages.put("page", "split", Outcome(Bag((("page", 2),))))
    >>> one = Bag((("page", 1),))
    >>> build = Plan((("job", "fork", Outcome(Bag((("part", 2),)), cost=1)), ("log", "end", Outcome()), ("part", "run", Outcome(Bag((("log", 1),)), cost=2))))
    >>> done = crawl.notice("page", "done", Bag((("image", 5),)))
    >>> seen = crawl.notice("image", "done")
    >>> fall(clock, done).numbers, reading(clock, start, (seen,)).numbers, reading(clock, start, ()) == clock.hands(start)
    ((1, -11), (1, 0, 5), True)
    >>> lone = Bag((("page", 1),))
    >>> reading(least_clock(crawl, lone), lone, (seen,)).numbers, reading(least_clock(crawl, lone), lone, (seen, done)).numbers
    ((1, -1), (10,))
    >>> job = Bag((("job", 1),))
    >>> fork, run, end = build.notice("job", "fork"), build.notice("part", "run"), build.notice("log", "end")
    >>> most_alive(build, job, (fork,)), most_alive(build, job, (run,)), most_alive(build, job, (end,)), most_alive(build, job, (end, fork, run))
    ((2, 'reached'), (2, 'bound'), (1, 'bound'), (1, 'reached'))
    >>> most_cost(build, job, ()), most_cost(build, job, (run,)), most_cost(build, job, (fork, run)), most_alive(crawl, start, ())
    ((5, 'reached'), (3, 'bound'), (2, 'reached'), (None, 'reached'))
    >>> last = pages.notice("page", "last")
    >>> most_alive(pages, one, (last,)), most_alive(twice, one, (last,)), most_cost(twice, one, (last,)), most_cost(pages.put("page", "next", Outcome(one, cost=1)), one, (last,))
    ((0, 'reached'), (None, 'reached'), (0, 'reached'), (None, 'reached'))
"""

NAMES = ("fall", "reading", "most_alive", "most_cost")


def clock_of(**rows):
    """A Clock from rows like a="1.0"."""
    return Clock([(kind, Hands.of(text)) for kind, text in rows.items()])


class TestExamples(unittest.TestCase):

    def test_examples_of_section_10(self):
        names = {name: getattr(module, name) for name in NAMES}
        run_examples(self, EXAMPLES, {**names, "Bag": Bag, "Hands": Hands, "Outcome": Outcome, "Plan": Plan,
                                      "least_clock": least_clock})


class TestFall(Case):

    CLOCK = clock_of(a="1.0.0", b="2.7", c="3", z="0")

    def test_fall(self):
        for kind, made, expected in (("a", "-", (1, 0, 0)), ("a", "2 b 1 c", (1, -4, -17)), ("b", "2 c", (2, 1)),
                                     ("b", "1 b", ()), ("c", "9 z", (3,)), ("z", "-", ())):
            notice = Notice(kind, "go", Bag.of(made))
            self.assertEqual(fall(self.CLOCK, notice).numbers, expected)
            self.assertEqual(fall(notice=notice, clock=self.CLOCK).numbers, expected)

    def test_notices_that_raise_a_reading(self):
        for kind, made in (("c", "1 b"), ("c", "2 c"), ("b", "1 b 1 c"), ("z", "1 c")):
            self.refused(BelowZero, (), fall, self.CLOCK, Notice(kind, "go", Bag.of(made)))

    def test_kinds_that_the_clock_does_not_have(self):
        self.refused(NoKind, ("x",), fall, self.CLOCK, Notice("x", "go", Bag.of("1 d")))
        self.refused(NoKind, ("d",), fall, self.CLOCK, Notice("c", "go", Bag.of("5 a 1 d 1 e")))
        self.refused(NoKind, ("a",), fall, Clock(()), Notice("a", "go", Bag()))


class TestReading(Case):

    def test_numbers_below_0_behind_the_first_one(self):
        clock = clock_of(a="1.0", b="1")
        made, seen = Notice("a", "go", Bag.of("7 b")), Notice("b", "end", Bag())
        start = Bag.of("1 a")
        for notices, expected in (((), (1, 0)), ((seen,), (1, -1)), ((seen,) * 3, (1, -3)), ((made,), (7,)),
                                  ((seen, made, seen), (5,)), ((made,) + (seen,) * 7, ())):
            for held in (notices, notices[::-1], list(notices)):
                self.assertEqual(reading(clock, start, held).numbers, expected)
        self.assertEqual(reading(notices=[], start=start, clock=clock), hand(1))

    def test_any_order_by_chance(self):
        rng = random.Random(61)
        for _ in range(300):
            plan = layered_plan(rng)
            start = random_start(rng, plan)
            clock = least_clock(plan, start)
            held = [notice for notice in random_run(rng, plan, start, 8) if rng.random() < 0.7]
            found = reading(clock, start, held)
            # Place by place, whatever is below 0 on the way.
            numbers = [0] * 9
            for row in [clock.hands(start).numbers] + [clock.hands(notice.made).numbers for notice in held]:
                numbers = [one + two for one, two in zip(numbers, (0,) * (9 - len(row)) + row)]
            for row in [clock[notice.kind].numbers for notice in held]:
                numbers = [one - two for one, two in zip(numbers, (0,) * (9 - len(row)) + row)]
            self.assertEqual(found, Hands(numbers))
            rng.shuffle(held)
            self.assertEqual(reading(clock, start, held), found)

    def test_it_never_rises_and_says_when_nothing_lives(self):
        """(e), for runs of which all notices come at last, in any order."""
        rng, finished = random.Random(62), 0
        for _ in range(300):
            plan = layered_plan(rng, 4)
            start = random_start(rng, plan)
            clock = least_clock(plan, start)
            run = random_run(rng, plan, start, 12)
            alive = start
            for notice in run:
                alive = end_of(alive, notice)
            rng.shuffle(run)
            shown = [reading(clock, start, run[:many]) for many in range(len(run) + 1)]
            for before, after, notice in zip(shown, shown[1:], run):
                self.assertLessEqual(after, before)
                self.assertLessEqual(after.cut(), before.cut())
                self.assertEqual(before - after, fall(clock, notice))
            self.assertEqual(shown[-1], clock.hands(alive))
            if alive.jobs:
                self.assertTrue(all(hands > Hands() for hands in shown))
            finished += alive.jobs == 0
        self.assertGreater(finished, 30)

    def test_below_zero_as_a_whole(self):
        clock = clock_of(a="1.0", b="1")
        seen = Notice("b", "end", Bag())
        self.refused(BelowZero, (), reading, clock, Bag.of("2 b"), (seen,) * 3)
        self.refused(BelowZero, (), reading, clock, Bag(), (seen,))
        self.refused(BelowZero, (), reading, clock, Bag.of("5 b"), (Notice("a", "go", Bag.of("9 b")), seen))
        self.assertEqual(reading(clock, Bag.of("2 b"), (seen,) * 2), Hands())

    def test_notices_that_raise_a_reading(self):
        clock = clock_of(a="1", b="5")
        rise, end = Notice("a", "go", Bag.of("2 b")), Notice("b", "end", Bag())
        self.assertEqual(reading(clock, Bag.of("1 a"), (rise,)).text, "10")
        self.assertEqual(reading(clock, Bag.of("1 a"), (end, rise, end)), Hands())

    def test_kinds_that_the_clock_does_not_have(self):
        clock = clock_of(b="1")
        for start, notices, kind in (
                ("1 c", (Notice("b", "x", Bag.of("1 a")),), "a"), ("1 b 1 d", (Notice("e", "x", Bag()),), "d"),
                ("1 b", (Notice("c", "x", Bag.of("1 d")),), "c"), ("1 b", (Notice("b", "x", Bag.of("1 e 1 z")),), "e"),
                ("-", (Notice("b", "x", Bag()), Notice("a", "x", Bag())), "a"), ("1 a", (), "a")):
            self.refused(NoKind, (kind,), reading, clock, Bag.of(start), notices)
        self.assertEqual(reading(Clock(()), Bag(), ()), Hands())

    def test_arguments_are_not_changed(self):
        held = [Notice("b", "x", Bag())]
        reading(clock_of(b="1"), Bag.of("2 b"), held)
        self.assertEqual(held, [Notice("b", "x", Bag())])


class FromNowCase(Case):

    def cases(self, seed, many):
        """Plans by chance, a start, and notices of one run of which some can be late."""
        rng = random.Random(seed)
        for _ in range(many):
            plan = rng.choice((costly_plan, layered_plan))(rng, 3)
            start = random_start(rng, plan, 2)
            run = random_run(rng, plan, start, 6)
            chance = rng.choice((1, 0.6, 0.6))
            held = [notice for notice in run[rng.randint(0, 1):] if rng.random() < chance]
            # By chance most notices are a run by themselves.
            if not is_run(start, held) or rng.random() < 0.1:
                yield plan, start, held

    def check_alike(self, call, plan, start, held, found):
        self.assertEqual(call(plan, start, tuple(held[::-1])), found)
        self.assertEqual(call(notices=held, start=start, plan=plan), found)
        self.assertIsInstance(found, tuple)
        self.assertEqual(found[1], "reached" if is_run(start, held) else "bound")


class TestMostAlive(FromNowCase):

    def test_by_all_small_runs(self):
        said = Counter()
        for plan, start, held in self.cases(63, 1500):
            found = most_alive(plan, start, held)
            self.check_alike(most_alive, plan, start, held, found)
            number, word = found
            if word == "bound" and crowd(plan, start) is None:
                self.assertIsNone(number)
            elif number is None:
                living = left(start, held).jobs
                if living < 5:
                    self.assertGreater(crowd_behind(plan, start, held, living + 8), living + 2)
            elif number < 7:
                most = crowd_behind(plan, start, held, 7)
                self.assertTrue(most == number if word == "reached" else most <= number, (plan.rows, start.text))
            said[word, number is None] += 1
        self.assertGreater(min(said.values()), 20, said)
        self.assertEqual(len(said), 4)

    def test_bound_is_the_last_hand_of_the_reading_without_costs(self):
        rng, tried = random.Random(64), 0
        for _ in range(600):
            plan = layered_plan(rng, 4, 0)
            start = random_start(rng, plan)
            held = [notice for notice in random_run(rng, plan, start, 8) if rng.random() < 0.6]
            number, word = most_alive(plan, start, held)
            shown = reading(least_clock(plan, start, costs=False), start, held)
            self.assertEqual((number,), shown.numbers or (0,))
            tried += word == "bound"
        self.assertGreater(tried, 30)

    def test_a_kind_that_was_met_grows(self):
        plan = plan_with(a_end="-", a_go="1 g", g_two="2 g", g_end="-")
        one, end, go, out = Bag.of("1 a"), plan.notice("a", "end"), plan.notice("a", "go"), plan.notice("g", "end")
        self.assertEqual(most_alive(plan, one, (end,)), (0, "reached"))
        self.assertEqual(most_alive(plan, one, (out, go)), (None, "reached"))
        self.assertEqual(most_alive(plan, one, ()), (None, "reached"))
        self.assertEqual(most_alive(plan, one, (out,)), (None, "bound"))
        self.assertEqual(most_alive(plan, Bag(), ()), (0, "reached"))

    def test_any_numbers_that_are_told(self):
        plan = plan_with(a_x=("-", "b"), b_end="-", b_two="2 c", c_end="-")
        three = plan.notice("a", "x", Bag.of("3 b"))
        self.assertEqual(most_alive(plan, Bag.of("1 a"), ()), (None, "reached"))
        self.assertEqual(most_alive(plan, Bag.of("1 a"), (three,)), (6, "reached"))
        self.assertEqual(most_alive(plan, Bag.of("1 a"), (plan.notice("b", "end"), three)), (4, "reached"))
        self.assertEqual(most_alive(plan, Bag.of("1 a"), (plan.notice("c", "end"), three)), (None, "bound"))

    def test_great_numbers(self):
        plan = plan_with(a_x=f"{10 ** 30} b", b_y=f"{10 ** 30} c")
        held = (plan.notice("b", "y"),)
        self.assertEqual(most_alive(plan, Bag.of("2 a"), held), (2 * 10 ** 60, "bound"))
        self.assertEqual(most_alive(plan, Bag.of("2 a"), ()), (2 * 10 ** 60, "reached"))


class TestMostCost(FromNowCase):

    def test_by_all_small_runs(self):
        said = Counter()
        for plan, start, held in self.cases(65, 1500):
            found = most_cost(plan, start, held)
            self.check_alike(most_cost, plan, start, held, found)
            number, word = found
            if word == "bound" and dearest(plan, start) is None:
                self.assertIsNone(number)
            elif number is None:
                if left(start, held).jobs < 5:
                    self.assertEqual(cost_behind(plan, start, held, 3, left(start, held).jobs + 9), 3)
            elif number < 7:
                most = cost_behind(plan, start, held, number + 1, 7)
                self.assertTrue(most == number if word == "reached" else most <= number, (plan.rows, start.text))
            said[word, number is None] += 1
        self.assertGreater(min(said.values()), 20, said)
        self.assertEqual(len(said), 4)

    def test_a_kind_that_was_met_can_come_again_at_a_cost(self):
        def plan(**rows):
            return Plan([(*word.split("_"), Outcome(Bag.of(bag), more, cost))
                         for word, (bag, more, cost) in rows.items()])
        one = Bag.of("1 a")
        for rows, expected in (
                ({"a_on": ("1 a", (), 1)}, None), ({"a_on": ("1 a", (), 0)}, 0),
                ({"a_on": ("1 b", (), 0), "b_on": ("1 a", (), 2)}, None),
                ({"a_on": ("1 a 1 c", (), 0), "c_end": ("-", (), 1)}, None),
                ({"a_on": ("1 a 1 c", (), 0), "c_end": ("-", (), 0)}, 0),
                ({"a_on": ("1 a", ("c",), 0), "c_go": ("1 d", (), 0), "d_end": ("-", (), 1)}, None),
                ({"a_on": ("2 a", (), 0)}, 0), ({"a_on": ("2 a", (), 0), "a_pay": ("-", (), 1)}, None),
                ({"a_on": ("1 a", (), 0), "a_pay": ("-", (), 1)}, 0),
                ({"a_on": ("-", ("a",), 0), "a_pay": ("-", (), 1)}, None),
                ({"a_on": ("1 c", (), 0), "c_on": ("1 c", (), 1)}, 0)):
            made = plan(a_end=("-", (), 0), **rows)
            self.assertEqual(most_cost(made, one, (made.notice("a", "end"),)), (expected, "reached"), rows)

    def test_what_lives_is_counted(self):
        plan = Plan([("a", "x", Outcome(Bag.of("2 b"), (), 1)), ("b", "y", Outcome(cost=3)), ("b", "z", Outcome())])
        one, fork, dear, free = Bag.of("1 a"), plan.notice("a", "x"), plan.notice("b", "y"), plan.notice("b", "z")
        for held, expected in (((), (7, "reached")), ((fork,), (6, "reached")), ((fork, free), (3, "reached")),
                               ((free,), (4, "bound")), ((dear,), (4, "bound")), ((dear, free), (1, "bound")),
                               ((dear, free, fork), (0, "reached"))):
            self.assertEqual(most_cost(plan, one, held), expected)

    def test_great_numbers(self):
        plan = Plan([("a", "x", Outcome(Bag.of("1 b"), (), 10 ** 30)), ("b", "y", Outcome(cost=10 ** 30))])
        start = Bag((("a", 10 ** 30),))
        self.assertEqual(most_cost(plan, start, ()), (2 * 10 ** 60, "reached"))
        self.assertEqual(most_cost(plan, start, (plan.notice("b", "y"),)), (2 * 10 ** 60 - 10 ** 30, "bound"))


class TestRefusedArguments(Case):

    def test_kinds_of_the_start_come_first(self):
        plan = plan_with(a_two="2 a", b_end="-")
        for text, kind in (("1 a 1 aa 1 c", "aa"), ("1 z", "z")):
            for call in (most_alive, most_cost):
                self.refused(NoKind, (kind,), call, plan, Bag.of(text), ())
                self.refused(NoKind, (kind,), call, plan, Bag.of(text), [plan.notice("b", "end")])

    def test_notices_of_no_run_are_answered_somehow(self):
        plan = plan_with(a_end="-", b_two="2 b", b_x=("-", "c"))
        for notice in plan.notice("a", "end"), plan.notice("b", "two"), plan.notice("b", "x"):
            for call in (most_alive, most_cost):
                self.assertEqual(call(plan, Bag.of("1 a"), (notice,) * 2)[1], "bound")


if __name__ == "__main__":
    unittest.main()
