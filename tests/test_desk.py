"""toldlate/desk.py: point [14] of DOC.md."""

import random
import unittest
from collections import Counter

from cases import NO_NAMES, Case, plan_with
from examples import run_examples
from oracles import pairs_of, random_bag
from searches import layered_plan, random_run, random_start
from toldlate.bags import Bag
from toldlate.books import books, closed, is_twin, sure, twin
from toldlate.clocks import least_clock
from toldlate.desk import Desk
from toldlate.errors import (BelowZero, Heavy, LateError, NoKind, NoName, NoOutcome, NoRun, NothingDone, Open,
                             Unlike)
from toldlate.hands import Hands
from toldlate.plans import Notice, Outcome, Plan
from toldlate.readings import most_alive, reading

EXAMPLES = r"""
    >>> plan = Plan((("page", "last", Outcome()), ("page", "two", Outcome(Bag((("page", 2),))))))
    >>> desk = Desk(plan, Bag((("page", 1),)))
    >>> desk.hear(plan.notice("page", "last"))
    >>> desk.books(), desk.closed(), desk.sure(), len(desk)
    ((), True, False, 1)
    >>> desk.twin_run().alive.jobs > 0
    True
    >>> told = Desk(plan, Bag((("page", 1),)), (("page", "two"),))
    >>> told += plan.notice("page", "last")
    >>> told.sure(), told.twin_run()
    (True, None)
    >>> desk.reading()
    raises Heavy(kind='page', outcome='two', word='second')
    >>> desk.without("page", "two")
    >>> desk.sure(), desk.reading().text
    (True, '0')
    >>> desk.back()
    >>> desk.sure()
    False
    >>> desk.without("page", "last")
    raises Unlike(kind='page', outcome='last')
    >>> site = Plan((("image", "kept", Outcome()), ("index", "list", Outcome(more=("page",))), ("note", "read", Outcome()), ("page", "show", Outcome(Bag((("note", 2),)), ("image",)))))
    >>> late = Desk(site, Bag((("index", 1),)))
    >>> late.hear(site.notice("page", "show", Bag((("image", 3),))))
    >>> late.reading().numbers, late.shown().numbers, late.books()
    ((1, -1, 5), (1, 0, 0), (('image', 3), ('index', 1), ('note', 2), ('page', -1)))
    >>> late.hear(site.notice("index", "list", Bag((("page", 5),))))
    >>> late.reading().numbers, late.shown().numbers
    ((4, 5), (4, 5))
    >>> late.attempt((site.notice("note", "read"), plan.notice("page", "last")))
    raises NoOutcome(kind='page', outcome='last')
    >>> len(late)
    2
"""

PLAN = plan_with(a_end="-", a_go="1 b", a_more=("1 b", "c"), b_end="-", c_end="-")
ONE = Bag.of("1 a")
END, GO, B_END = PLAN.notice("a", "end"), PLAN.notice("a", "go"), PLAN.notice("b", "end")
MORE = PLAN.notice("a", "more", Bag.of("3 c"))


def answer(call, *arguments):
    """What a call returns, or the error that it raises with its values."""
    try:
        return call(*arguments)
    except LateError as error:
        return error.__class__.__name__, vars(error)


def state(desk):
    """All that a Desk says of itself."""
    return desk.plan, desk.start, desk.ahead, desk.heard, len(desk)


class TestExamples(unittest.TestCase):

    def test_examples_of_section_13(self):
        run_examples(self, EXAMPLES, {"Bag": Bag, "Desk": Desk, "Outcome": Outcome, "Plan": Plan})


class DeskCase(Case):

    def unchanged(self, desk, error, values, call, *arguments):
        before = state(desk)
        self.refused(error, values, call, *arguments)
        self.assertEqual(state(desk), before)


class TestDesk(DeskCase):

    def test_it_is_defined_in_its_file(self):
        self.assertEqual(Desk.__module__, "toldlate.desk")
        for name in ("plan", "start", "ahead", "heard", "hear", "attempt", "put", "without", "back", "books", "closed",
                     "sure", "twin_run", "reading", "shown", "most_alive", "copied", "__len__", "__iadd__"):
            self.assertIn(name, vars(Desk))

    def test_a_new_desk(self):
        self.assertEqual(state(Desk(PLAN, ONE)), (PLAN, ONE, (), (), 0))
        told = (("a", "go"), ("b", "end"))
        for ahead in (told, [list(pair) for pair in told], [told[0], ["b", "end"]]):
            self.assertEqual(repr(Desk(ahead=ahead, start=ONE, plan=PLAN).ahead), repr(told))
        self.assertEqual(state(Desk(Plan(), Bag())), (Plan(), Bag(), (), (), 0))

    def test_it_copies_its_arguments(self):
        ahead, notices = [["a", "go"]], [END]
        desk = Desk(PLAN, ONE, ahead)
        ahead[0][1] = "end"
        ahead.append(["b", "end"])
        desk.attempt(notices)
        notices.append(GO)
        self.assertEqual((desk.ahead, desk.heard), ((("a", "go"),), (END,)))

    def test_what_a_new_desk_refuses(self):
        self.refused(NoKind, ("aa",), Desk, PLAN, Bag.of("1 a 1 aa 1 z"), (("z", "z"),))
        self.refused(NoKind, ("z",), Desk, PLAN, Bag.of("1 z"))
        for value in NO_NAMES + ("z",):
            for pair in ((value, "end"), ("a", value)):
                for ahead in ((pair,), [["a", "end"], list(pair), ["z", "z"]]):
                    self.refused(NoOutcome, pair, Desk, PLAN, ONE, ahead)

    def test_properties_have_no_setters(self):
        desk = Desk(PLAN, ONE)
        for name in ("plan", "start", "ahead", "heard"):
            with self.assertRaises(AttributeError):
                setattr(desk, name, ())


class TestHear(DeskCase):

    def test_notices_are_heard_in_their_order(self):
        desk = Desk(PLAN, ONE)
        for many, notice in enumerate((B_END, MORE, B_END, MORE)):
            self.assertIs(desk.hear(notice), None)
            self.assertEqual(len(desk), many + 1)
        self.assertEqual(desk.heard, (B_END, MORE, B_END, MORE))
        self.assertIs(desk.hear(notice=END), None)
        self.assertEqual(desk.heard[-1], END)

    def test_plus_does_the_same(self):
        desk = same = Desk(PLAN, ONE)
        desk += GO
        desk += B_END
        self.assertIs(desk, same)
        self.assertEqual(desk.heard, (GO, B_END))
        with self.assertRaises(NoKind):
            desk += Notice("z", "end", Bag())
        self.assertIs(desk, same)
        desk.back()
        self.assertEqual(desk.heard, (GO,))
        for other in (1, "a", (GO,), [GO], None, PLAN):
            with self.assertRaises(TypeError):
                desk += other
        self.assertEqual(desk.heard, (GO,))

    def test_what_is_refused(self):
        desk = Desk(PLAN, ONE)
        desk.hear(GO)
        for notice, error, values in (
                (Notice("z", "end", Bag()), NoKind, ("z",)), (Notice("a", "no", Bag()), NoOutcome, ("a", "no")),
                (Notice("c", "go", Bag.of("1 b")), NoOutcome, ("c", "go")),
                (Notice("a", "end", Bag.of("1 b")), Unlike, ("a", "end")),
                (Notice("a", "go", Bag()), Unlike, ("a", "go")),
                (Notice("a", "more", Bag.of("2 c")), Unlike, ("a", "more")),
                (Notice("a", "more", Bag.of("2 b 1 c")), Unlike, ("a", "more"))):
            self.unchanged(desk, error, values, desk.hear, notice)
            for notices in ((notice,), (B_END, notice, Notice("y", "y", Bag())), [notice, B_END]):
                self.unchanged(desk, error, values, desk.attempt, notices)
        desk.back()
        self.unchanged(desk, NothingDone, (), desk.back)

    def test_a_kind_without_outcomes(self):
        desk = Desk(plan_with(a_go="1 b"), ONE)
        self.unchanged(desk, NoOutcome, ("b", "end"), desk.hear, B_END)

    def test_attempts_are_one_deed(self):
        desk = Desk(PLAN, ONE)
        self.assertIs(desk.attempt((GO, B_END, B_END)), None)
        self.assertIs(desk.attempt([MORE]), None)
        self.assertIs(desk.attempt(notices=()), None)
        self.assertEqual(desk.heard, (GO, B_END, B_END, MORE))
        desk.back()
        self.assertEqual(desk.heard, (GO, B_END, B_END, MORE))
        desk.back()
        self.assertEqual(desk.heard, (GO, B_END, B_END))
        desk.back()
        self.assertEqual(desk.heard, ())
        self.unchanged(desk, NothingDone, (), desk.back)

    def test_notices_are_checked_by_the_plan_as_it_is_now(self):
        desk = Desk(PLAN, ONE)
        new = Notice("b", "two", Bag.of("2 c"))
        self.unchanged(desk, NoOutcome, ("b", "two"), desk.hear, new)
        desk.put("b", "two", Outcome(Bag.of("2 c")))
        desk.hear(new)
        desk.without("a", "go")
        self.unchanged(desk, NoOutcome, ("a", "go"), desk.hear, GO)
        self.assertEqual(desk.heard, (new,))


class TestChanges(DeskCase):

    def test_put_and_without(self):
        desk = Desk(PLAN, ONE, (("a", "go"),))
        self.assertIs(desk.put("b", "new", Outcome(Bag.of("1 d"))), None)
        self.assertIs(desk.put(outcome=Outcome(cost=1), name="end", kind="a"), None)
        plan = PLAN.put("b", "new", Outcome(Bag.of("1 d"))).put("a", "end", Outcome(cost=1))
        self.assertEqual(desk.plan, plan)
        self.assertIs(desk.without("c", "end"), None)
        self.assertIs(desk.without(name="new", kind="b"), None)
        self.assertEqual(desk.plan, plan.without("c", "end").without("b", "new"))
        self.assertEqual((desk.start, desk.ahead, desk.heard), (ONE, (("a", "go"),), ()))

    def test_what_the_plan_refuses(self):
        desk = Desk(PLAN, ONE)
        for value in NO_NAMES:
            self.unchanged(desk, NoName, (value,), desk.put, value, "A", Outcome())
            self.unchanged(desk, NoName, (value,), desk.put, "a", value, Outcome())
            self.unchanged(desk, NoKind, (value,), desk.without, value, "A")
            self.unchanged(desk, NoOutcome, ("a", value), desk.without, "a", value)
        self.unchanged(desk, NoKind, ("z",), desk.without, "z", "end")
        self.unchanged(desk, NoOutcome, ("c", "go"), desk.without, "c", "go")
        self.unchanged(desk, NothingDone, (), desk.back)

    def test_a_notice_that_would_not_fit(self):
        desk = Desk(PLAN, ONE)
        desk.attempt((B_END, MORE))
        for outcome in (Outcome(), Outcome(Bag.of("2 b"), ("c",)), Outcome(Bag.of("1 b")),
                        Outcome(Bag.of("1 b"), ("b",)), Outcome(Bag.of("1 b 4 c"), ("c",))):
            self.unchanged(desk, Unlike, ("a", "more"), desk.put, "a", "more", outcome)
        self.unchanged(desk, Unlike, ("a", "more"), desk.without, "a", "more")
        self.unchanged(desk, Unlike, ("b", "end"), desk.without, "b", "end")
        for outcome in (Outcome(Bag.of("1 b 3 c")), Outcome(Bag(), ("b", "c", "d")), Outcome(Bag.of("1 b"), ("c",), 9)):
            desk.put("a", "more", outcome)
            self.assertEqual(desk.plan["a", "more"], outcome)
        self.assertEqual(desk.heard, (B_END, MORE))

    def test_a_pair_of_ahead_that_would_be_gone(self):
        desk = Desk(PLAN, ONE, [["a", "go"]])
        self.unchanged(desk, Unlike, ("a", "go"), desk.without, "a", "go")
        desk.put("a", "go", Outcome(Bag.of("5 c"), ("a",)))
        self.assertEqual(desk.ahead, (("a", "go"),))

    def test_a_kind_of_the_start_that_would_be_gone(self):
        desk = Desk(plan_with(a_go="1 b", c_end="-"), Bag.of("1 a 1 b"))
        self.unchanged(desk, Unlike, ("a", "go"), desk.without, "a", "go")
        self.unchanged(desk, Unlike, ("a", "go"), desk.put, "a", "go", Outcome())
        desk.without("c", "end")
        desk.put("a", "go", Outcome(Bag(), ("b",)))
        self.assertEqual(desk.plan.kinds, ("a", "b"))

    def test_deeds_that_change_nothing(self):
        desk = Desk(PLAN, ONE)
        desk.put("a", "go", PLAN["a", "go"])
        desk.attempt(())
        self.assertEqual(state(desk), state(Desk(PLAN, ONE)))
        desk.back()
        desk.back()
        self.unchanged(desk, NothingDone, (), desk.back)


class TestBack(DeskCase):

    def test_deeds_by_chance_taken_back_down_to_the_first_one(self):
        rng, refused, done = random.Random(91), Counter(), Counter()
        for _ in range(60):
            plan = layered_plan(rng, 3)
            start = random_start(rng, plan, 2)
            desk = Desk(plan, start, tuple(pair for pair in pairs_of(plan) if rng.random() < 0.1))
            states = [state(desk)]
            for _ in range(40):
                self.one_deed(rng, desk, states, refused, done)
                self.assertEqual(state(desk), states[-1])
            copied = desk.copied()
            while len(states) > 1:
                states.pop()
                self.assertIs(copied.back(), None)
                self.assertEqual(state(copied), states[-1])
            self.unchanged(copied, NothingDone, (), copied.back)
        self.assertGreater(min(refused[word] for word in ("hear", "attempt", "put", "without", "back")), 5, refused)
        self.assertGreater(min(done[word] for word in ("hear", "attempt", "put", "without", "back")), 50, done)

    def one_deed(self, rng, desk, states, refused, done):
        word = rng.choice(("hear", "attempt", "put", "without", "back", "hear"))
        notices = self.notices(rng, desk.plan, 1 if word == "hear" else rng.randint(0, 3))
        pair = rng.choice(pairs_of(desk.plan) or (("a", "p"),))
        given = {"hear": notices, "attempt": (notices,), "back": (), "without": pair,
                 "put": pair + (Outcome(random_bag(rng, "abc")),)}[word]
        try:
            self.assertIs(getattr(desk, word)(*given), None)
        except LateError:
            refused[word] += 1
            return
        done[word] += 1
        if word == "back":
            states.pop()
        else:
            states.append(state(desk))

    def notices(self, rng, plan, many):
        """Some ends of the plan, by chance one that it does not have."""
        found = [plan.notice(kind, name, Bag([(made, rng.randint(0, 2)) for made in outcome.more]))
                 for kind, name, outcome in rng.sample(plan.rows, min(many, len(plan)))]
        if not found and many == 1 or found and rng.random() < 0.2:
            found = found[1:] + [Notice("a", "zz", Bag())]
        return tuple(found)

    def test_refused_deeds_are_no_deeds(self):
        desk = Desk(PLAN, ONE)
        desk.hear(GO)
        self.unchanged(desk, Unlike, ("a", "go"), desk.without, "a", "go")
        self.unchanged(desk, NoKind, ("z",), desk.hear, Notice("z", "z", Bag()))
        desk.back()
        self.assertEqual(desk.heard, ())

    def test_what_was_taken_back_can_be_done_again(self):
        desk = Desk(PLAN, ONE)
        desk.hear(GO)
        desk.hear(B_END)
        desk.back()
        desk.hear(END)
        self.assertEqual(desk.heard, (GO, END))
        desk.back()
        desk.back()
        self.unchanged(desk, NothingDone, (), desk.back)

    def test_60_notices_and_60_deeds(self):
        desk = Desk(PLAN, ONE)
        for many in range(70):
            desk.hear(MORE)
        self.assertEqual((len(desk), len(desk.books())), (70, 3))
        for many in range(70):
            desk.back()
        self.assertEqual(state(desk), state(Desk(PLAN, ONE)))


class TestCopied(DeskCase):

    def test_a_copy_shares_nothing(self):
        desk = Desk(PLAN, ONE, (("a", "go"),))
        desk.hear(GO)
        desk.put("b", "new", Outcome())
        other = desk.copied()
        self.assertIsInstance(other, Desk)
        self.assertEqual(state(other), state(desk))
        other.hear(B_END)
        other.without("b", "new")
        self.assertEqual((len(desk), ("b", "new") in desk.plan), (1, True))
        desk.back()
        desk.back()
        self.unchanged(desk, NothingDone, (), desk.back)
        self.assertEqual((other.heard, ("b", "new") in other.plan), ((GO, B_END), False))
        for _ in range(4):
            other.back()
        self.assertEqual(state(other), state(Desk(PLAN, ONE, (("a", "go"),))))
        self.unchanged(other, NothingDone, (), other.back)

    def test_a_copy_of_a_copy(self):
        desk = Desk(PLAN, ONE)
        desk.hear(GO)
        first = desk.copied()
        second = first.copied()
        first.back()
        self.assertEqual((desk.heard, first.heard, second.heard), ((GO,), (), (GO,)))


class TestQuestions(DeskCase):

    def test_by_chance(self):
        rng, said = random.Random(92), Counter()
        for _ in range(400):
            plan = layered_plan(rng, 4)
            if rng.random() < 0.4:
                plan = plan.put(rng.choice(plan.kinds), "grow", Outcome(Bag([(kind, 1) for kind in plan.kinds])))
            start = random_start(rng, plan, 2)
            ahead = tuple(pair for pair in pairs_of(plan) if rng.random() < 0.1)
            run = random_run(rng, plan, start, 10)
            held = tuple(notice for notice in run if rng.random() < rng.choice((0.7, 1)))
            desk = Desk(plan, start, ahead)
            desk.attempt(held)
            self.assertEqual((desk.books(), desk.closed()), (books(start, held), closed(start, held)))
            self.assertIs(desk.sure(), sure(plan, start, held, ahead=ahead))
            self.assertEqual(answer(desk.twin_run), answer(lambda: twin(plan, start, held, ahead=ahead)))
            self.assertEqual(answer(desk.reading), answer(lambda: reading(least_clock(plan, start), start, held)))
            shown = answer(desk.shown)
            self.assertEqual(shown, answer(lambda: reading(least_clock(plan, start), start, held).cut()))
            self.assertEqual(desk.most_alive(), most_alive(plan, start, held))
            said[shown.__class__.__name__] += 1
            self.assertEqual(state(desk), (plan, start, ahead, held, len(held)))
        self.assertGreater(min(said["Hands"], said["tuple"]), 30, said)

    def test_neither_the_reading_nor_what_is_shown_grows(self):
        rng = random.Random(93)
        for _ in range(150):
            plan = layered_plan(rng, 4, 0.4)
            start = random_start(rng, plan, 2)
            run = random_run(rng, plan, start, 10)
            rng.shuffle(run)
            desk = Desk(plan, start)
            before = desk.reading(), desk.shown()
            for notice in run:
                desk += notice
                self.assertLessEqual(desk.reading(), before[0])
                self.assertLessEqual(desk.shown(), before[1])
                before = desk.reading(), desk.shown()
                self.assertIs(before[1].plain, True)
                self.assertIs(before[0] == Hands(), before[1] == Hands())

    def test_errors(self):
        desk = Desk(PLAN.put("b", "two", Outcome(Bag.of("2 b"))), ONE)
        desk.hear(GO)
        self.unchanged(desk, Open, ("b",), desk.twin_run)
        for call in (desk.reading, desk.shown):
            self.unchanged(desk, Heavy, ("b", "two", "second"), call)
        desk.hear(B_END)
        self.assertIs(desk.sure(), False)
        self.assertIs(is_twin(desk.plan, ONE, desk.heard, desk.twin_run()), True)
        self.assertEqual(desk.most_alive(), (None, "reached"))

    def test_notices_that_belong_to_no_run(self):
        desk = Desk(PLAN, ONE)
        desk.attempt((END, END))
        self.assertEqual((desk.books(), desk.closed(), desk.sure()), ((("a", -1),), False, False))
        for call in (desk.reading, desk.shown):
            self.unchanged(desk, BelowZero, (), call)
        desk = Desk(plan_with(a_end="-", x_spin="1 x"), ONE)
        desk.attempt((Notice("x", "spin", Bag.of("1 x")), END))
        self.assertIs(desk.sure(), True)
        self.unchanged(desk, NoRun, (("x",),), desk.twin_run)
        for call in (desk.reading, desk.shown):
            self.unchanged(desk, NoKind, ("x",), call)

    def test_questions_are_about_the_plan_as_it_is_now(self):
        desk = Desk(PLAN, ONE)
        self.assertEqual((desk.reading().text, desk.most_alive()), ("1.0", (None, "reached")))
        desk.without("a", "more")
        self.assertEqual((desk.reading().text, desk.most_alive()), ("1", (1, "reached")))
        desk.put("a", "go", Outcome(Bag.of("4 b"), (), 2))
        self.assertEqual((desk.reading().text, desk.shown().text, desk.most_alive()), ("6", "6", (4, "reached")))
        desk.hear(B_END)
        self.assertEqual((desk.reading().text, desk.most_alive()), ("5", (3, "bound")))


if __name__ == "__main__":
    unittest.main()
