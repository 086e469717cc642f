"""toldlate/duels.py: point [12] of DOC.md, and the guarantee (f) of [1]."""

import random
import unittest
from collections import Counter

from cases import Case, plan_with
from examples import run_examples
from oracles import leading, made_by, ring_by
from searches import layered_plan, random_start, stays_by
from toldlate import duels as module
from toldlate.bags import Bag
from toldlate.clocks import bound, least_clock
from toldlate.duels import Duel
from toldlate.errors import Beaten, Heavy, NoKind, NotBelow, NotDown, Unending
from toldlate.hands import Hands, hand
from toldlate.plans import Outcome, Plan
from toldlate.runs import Run

EXAMPLES = r"""
    >>> plan = Plan((("a", "split", Outcome(Bag((("b", 2),)))), ("b", "end", Outcome())))
    >>> duel = Duel(plan, Bag((("a", 1),)), Hands.of("1"))
    >>> duel.next_end().kind, duel.price, duel.beaten
    ('a', 0, False)
    >>> duel.play(lambda end, price, now: now - hand(0, price), 9)
    2
    >>> [end.kind for end in duel.ends], duel.now.text, duel.alive.pairs, duel.price, duel.beaten
    (['a', 'b'], '0', (('b', 1),), 1, True)
    >>> duel.answer(Hands())
    raises Beaten()
    >>> Duel(plan, Bag((("a", 1),)), Hands.of("2"))
    raises NotBelow()
    >>> site = Plan((("image", "kept", Outcome()), ("index", "list", Outcome(more=("page",))), ("note", "read", Outcome()), ("page", "show", Outcome(Bag((("note", 2),)), ("image",)))))
    >>> duel = Duel(site, Bag((("index", 1), ("note", 1))), Hands.of("1.0.0"))
    >>> duel.next_end().kind, duel.price
    ('note', 1)
    >>> duel.answer(Hands.of("1.0.0"))
    raises NotDown()
    >>> duel.answer(Hands.of("1.5"))
    >>> duel.next_end().outcome, duel.next_end().made.pairs, duel.price
    ('list', (('page', 2),), 0)
    >>> duel.answer(Hands.of("1.5"))
    >>> duel.next_end().made.pairs, duel.alive.pairs
    ((('image', 6), ('note', 2)), (('page', 2),))
"""

SITE = Plan((("image", "kept", Outcome()), ("index", "list", Outcome(more=("page",))), ("note", "read", Outcome()),
             ("page", "show", Outcome(Bag.of("2 note"), ("image",)))))
PAIR = plan_with(a_split="2 b", b_end="-")


class Fault(Exception):
    """What a keeper raises."""


def price_by(outcome):
    return outcome.cost if made_by(outcome) else max(1, outcome.cost)


def last_place_by(hands):
    return [number != 0 for number in hands.numbers[::-1]].index(True)


def number_by(hands, place):
    row = (0,) * (place + 1) + hands.numbers
    return row[len(row) - 1 - place]


def tight_by(plan, clock):
    """The pairs (kind, outcome) that are tight, by the words of [12]."""
    return {(kind, name) for kind, name, outcome in plan.rows
            if kind in clock and not stays_by(plan, kind, outcome)
            and clock[kind] == (bound(clock, outcome) if made_by(outcome) else hand(0, price_by(outcome)))}


def ends_to_tight(plan, clock):
    """From how many ends on, within its ring, a kind has a tight outcome."""
    found = leading(plan)
    ends = {kind: 0 for kind, _ in tight_by(plan, clock)}
    for many in range(len(clock.kinds)):
        for kind, _, outcome in plan.rows:
            if kind in clock and kind not in ends:
                inside = made_by(outcome) & ring_by(found, plan, kind)
                if any(ends.get(made) == many for made in inside):
                    ends[kind] = many + 1
    return ends


def lowered(rng, now, price, most=4):
    """Plain Hands that a keeper can name, by chance."""
    row = list(now.numbers) or [0]
    ways = [at for at in range(len(row) - 1) if row[at] > 0]
    if row[-1] >= price and (not ways or rng.random() < 0.8):
        return Hands(row[:-1] + [row[-1] - price - rng.choice((0, 0, 0, min(1, row[-1] - price)))])
    at = rng.choice(ways)
    return Hands(row[:at] + [row[at] - 1] + [rng.randint(0, most) for _ in row[at + 1:]])


class DuelCase(Case):

    def check_next(self, duel):
        """Check the next end by the words of the document."""
        plan, clock = duel.plan, least_clock(duel.plan, duel.start)
        end = duel.next_end()
        self.assertEqual(duel.next_end(), end)
        self.assertIn(end.kind, duel.alive)
        self.assertIs(plan.fits(end), True)
        places = {kind: last_place_by(clock[kind]) for kind in duel.alive.kinds}
        self.assertEqual(places[end.kind], min(places.values()))
        tight, ends, outcome = tight_by(plan, clock), ends_to_tight(plan, clock), plan[end.kind, end.outcome]
        if ends[end.kind] == 0:
            self.assertIn((end.kind, end.outcome), tight)
        else:
            self.assertEqual((end.made.jobs, outcome.cost), (1, 0))
            self.assertIn(end.made.kinds[0], ring_by(leading(plan), plan, end.kind))
            self.assertLess(ends[end.made.kinds[0]], ends[end.kind])
        self.check_chosen(duel.now, clock, outcome, end)
        self.assertEqual(duel.price, price_by(outcome))
        self.assertIs(duel.beaten, duel.now < hand(0, duel.price))

    def check_chosen(self, now, clock, outcome, end):
        chosen = (end.made - outcome.makes).pairs
        if not outcome.more:
            self.assertEqual(chosen, ())
            return
        (kind, number), = chosen
        self.assertEqual(clock[kind].places, max(clock[own].places for own in outcome.more))
        self.assertEqual(number, 1 + number_by(now, last_place_by(clock[end.kind]) - 1))

    def check_state(self, duel):
        clock = least_clock(duel.plan, duel.start)
        self.assertEqual(Run(duel.start, duel.ends).alive, duel.alive)
        self.assertLess(duel.now, clock.hands(duel.alive))
        self.assertGreater(duel.alive.jobs, 0)


class TestExamples(unittest.TestCase):

    def test_examples_of_section_11(self):
        run_examples(self, EXAMPLES, {"Bag": Bag, "Duel": Duel, "Hands": Hands, "Outcome": Outcome, "Plan": Plan,
                                      "hand": hand})


class TestDuel(DuelCase):

    def test_it_is_defined_in_its_file(self):
        self.assertEqual(module.Duel.__module__, "toldlate.duels")
        for name in ("plan", "start", "now", "alive", "ends", "price", "beaten", "next_end", "answer", "play"):
            self.assertIn(name, vars(Duel))

    def test_every_keeper_is_beaten(self):
        """(f), for keepers who name anything, and each next end by the words of [12]."""
        rng, said = random.Random(71), Counter()
        for _ in range(400):
            plan = layered_plan(rng, 5, rng.choice((0.2, 0.5)))
            start = random_start(rng, plan, 1) + Bag((("a", rng.randint(0, 1)),))
            clock = least_clock(plan, start)
            if not start.jobs:
                continue
            first = self.less_than(rng, clock.hands(start))
            duel = Duel(plan, start, first)
            self.assertEqual((duel.plan, duel.start, duel.now, duel.alive, duel.ends),
                             (plan, start, first, start, ()))
            while not duel.beaten and len(duel.ends) < 600:
                self.check_next(duel)
                self.check_state(duel)
                self.answer_by_chance(rng, duel)
            self.check_next(duel)
            self.check_state(duel)
            self.assertIs(duel.beaten, True)
            self.refused(Beaten, (), duel.answer, Hands())
            said[min(3, clock.hands(start).places)] += 1
            said["long"] += len(duel.ends) > 10
            said["rounds"] += any(stays_by(plan, end.kind, plan[end.kind, end.outcome]) for end in duel.ends)
        self.assertGreater(min(said[word] for word in (1, 2, 3, "long", "rounds")), 10, said)

    def less_than(self, rng, hands):
        row = list(hands.numbers)
        at = rng.choice([at for at, number in enumerate(row) if number > 0])
        return Hands(row[:at] + [row[at] - 1] + [rng.randint(0, 4) for _ in row[at + 1:]])

    def answer_by_chance(self, rng, duel):
        end, before = duel.next_end(), (duel.ends, duel.alive)
        named = lowered(rng, duel.now, duel.price)
        high = duel.now + hand(0, 1)
        self.refused(NotDown, (), duel.answer, high)
        self.assertEqual((duel.ends, duel.alive, duel.next_end()), before + (end,))
        self.assertIs(duel.answer(named), None)
        self.assertEqual(duel.now, named)
        self.assertEqual(duel.ends, before[0] + (end,))
        self.assertEqual(duel.alive, before[1] - Bag(((end.kind, 1),)) + end.made)

    def test_beaten_at_once(self):
        for plan, first, price in ((plan_with(a_end="-"), "0", 1), (Plan((("a", "end", Outcome(cost=5)),)), "4", 5)):
            duel = Duel(plan, Bag.of("1 a"), Hands.of(first))
            self.assertEqual((duel.beaten, duel.price, duel.ends), (True, price, ()))
            self.assertEqual(duel.next_end(), plan.notice("a", "end"))
            self.assertEqual(duel.next_end(), plan.notice("a", "end"))
            for text in ("0", "9"):
                self.refused(Beaten, (), duel.answer, Hands.of(text))
            self.assertEqual(duel.play(lambda end, price, now: 1 // 0, 5), 0)
            self.assertEqual((duel.now.text, duel.alive.text, duel.ends), (first, "1 a", ()))

    def test_named_too_high_by_1_and_just_high_enough(self):
        plan = Plan((("a", "go", Outcome(Bag.of("1 b"), (), 3)), ("b", "end", Outcome(cost=2)),
                     ("c", "end", Outcome())))
        duel = Duel(plan, Bag.of("1 a 1 c"), Hands.of("5"))
        named = []
        while not duel.beaten:
            just = duel.now - hand(0, duel.price)
            self.refused(NotDown, (), duel.answer, just + hand(0, 1))
            self.refused(NotDown, (), duel.answer, hand(1))
            duel.answer(just)
            named.append((duel.ends[-1].kind, duel.now.text))
        self.assertEqual(named, [("a", "2"), ("b", "0")])
        self.assertEqual((duel.next_end().kind, duel.price), ("c", 1))

    def test_ends_that_make_nothing(self):
        plan = Plan((("a", "dear", Outcome(cost=4)), ("a", "free", Outcome()), ("b", "free", Outcome()),
                     ("c", "go", Outcome(Bag.of("1 b"))), ("d", "one", Outcome(cost=1)), ("d", "free", Outcome())))
        for text, first, expected in (("1 a", "3", (("a", "dear"), 4)), ("1 b", "0", (("b", "free"), 1)),
                                      ("1 c", "0", (("c", "go"), 0))):
            duel = Duel(plan, Bag.of(text), Hands.of(first))
            self.assertEqual(((duel.next_end().kind, duel.next_end().outcome), duel.price), expected)
        self.assertEqual(Duel(plan, Bag.of("1 d"), Hands()).price, 1)

    def test_rounds_lead_to_a_tight_outcome(self):
        plan = plan_with(a_on="1 b", b_on="1 c", c_on="1 a", c_out="3 d", a_end="-", b_end="-", d_end="-")
        duel = Duel(plan, Bag.of("1 a"), Hands.of("2"))
        duel.play(lambda end, price, now: now - hand(0, price), 99)
        self.assertEqual([(end.kind, end.outcome) for end in duel.ends],
                         [("a", "on"), ("b", "on"), ("c", "out"), ("d", "end"), ("d", "end")])
        self.assertEqual((duel.beaten, duel.alive.text), (True, "1 d"))

    def test_any_numbers_against_great_hands(self):
        great = 10 ** 60
        duel = Duel(SITE, Bag.of("1 index"), Hands((great, great)))
        self.assertEqual(duel.next_end().made, Bag((("page", great + 1),)))
        self.assertEqual((duel.price, duel.beaten), (0, False))
        duel.answer(Hands((great, great)))
        self.assertEqual(duel.next_end().made, Bag((("note", 2), ("image", great + 1))))
        self.check_state(duel)
        self.check_next(duel)
        self.refused(NotDown, (), duel.answer, Hands((great, great + 1)))
        duel = Duel(SITE, Bag.of("2 index"), Hands((1, great, great)))
        self.assertEqual(duel.next_end().made, Bag((("page", great + 1),)))
        duel = Duel(SITE, Bag.of("2 index"), Hands((great,)))
        self.assertEqual(duel.next_end().made, Bag.of("1 page"))

    def test_several_kinds_in_any_number(self):
        plan = plan_with(a_x=("1 d", "b", "c", "d"), b_end="-", c_x=("-", "b"), d_x=("2 b", "b"))
        duel = Duel(plan, Bag.of("1 a"), Hands.of("7.9"))
        self.check_next(duel)
        chosen = duel.next_end().made - Bag.of("1 d")
        self.assertEqual(chosen.jobs, 8)
        self.assertIn(chosen.kinds, (("c",), ("d",)))

    def test_the_kind_whose_last_place_is_furthest_to_the_right(self):
        plan = plan_with(a_x=("-", "b"), b_end="-", c_x=("2 a", "b"), d_x="1 a 1 b")
        duel = Duel(plan, Bag.of("1 a 1 c 1 d"), Hands.of("4.0"))
        self.assertEqual(duel.next_end().kind, "d")
        self.check_next(duel)

    def test_an_end_that_is_asked_for_several_times(self):
        duel = Duel(PAIR, Bag.of("2 a"), Hands.of("3"))
        for _ in range(5):
            self.assertEqual(duel.next_end(), PAIR.notice("a", "split"))
        self.assertEqual((duel.ends, duel.alive.text), ((), "2 a"))

    def test_properties_have_no_setters(self):
        duel = Duel(PAIR, Bag.of("2 a"), Hands.of("3"))
        for name in ("plan", "start", "now", "alive", "ends", "price", "beaten"):
            with self.assertRaises(AttributeError):
                setattr(duel, name, 0)

    def test_arguments_by_name(self):
        duel = Duel(first=Hands.of("1"), start=Bag.of("1 a"), plan=PAIR)
        self.assertIs(duel.answer(hands=Hands.of("1")), None)
        self.assertEqual(duel.play(most=3, keeper=lambda *told: Hands()), 1)

    def test_what_is_returned_may_be_passed_in_again(self):
        duel = Duel(SITE, Bag.of("1 index 1 note"), Hands.of("1.0.0"))
        duel.play(lambda end, price, now: Hands.of("2.3") if now.places > 2 else now, 3)
        run = Run(duel.start, duel.ends)
        self.assertEqual(run + duel.next_end(), Run(run.start, run.notices + (duel.next_end(),)))
        again = Duel(duel.plan, duel.alive, duel.now)
        self.assertEqual(again.next_end().kind, duel.next_end().kind)


class TestPlay(DuelCase):

    def test_the_keeper_is_told_the_end_the_price_and_what_was_named(self):
        duel, told = Duel(PAIR, Bag.of("2 a"), Hands.of("3")), []

        def keeper(*given):
            told.append((given[0].kind,) + given[1:])
            return given[2] - hand(0, given[1])
        self.assertEqual(duel.play(keeper, 3), 3)
        self.assertEqual(len(duel.ends), 3)
        self.assertEqual(duel.play(keeper, 2), 2)
        self.assertEqual([(kind, price, now.text) for kind, price, now in told], [
            ("a", 0, "3"), ("a", 0, "3"), ("b", 1, "3"), ("b", 1, "2"), ("b", 1, "1")])
        self.assertEqual((duel.beaten, duel.play(keeper, 2), len(told)), (True, 0, 5))

    def test_no_ends_are_asked_for(self):
        duel = Duel(PAIR, Bag.of("1 a"), Hands.of("1"))
        self.assertEqual(duel.play(lambda end, price, now: 1 // 0, 0), 0)
        self.assertEqual(duel.ends, ())

    def test_a_keeper_who_raises_an_error_of_its_own(self):
        for error in (Fault, ValueError, NotDown, Beaten):
            duel, calls = Duel(PAIR, Bag.of("2 a"), Hands.of("3")), []

            def keeper(end, price, now):
                calls.append(end)
                if len(calls) == 3:
                    raise error()
                return now
            self.assertRaises(error, duel.play, keeper, 10)
            self.assertEqual((len(calls), len(duel.ends), duel.alive.text, duel.now.text), (3, 2, "4 b", "3"))
            self.assertEqual(duel.next_end().kind, "b")
            self.assertEqual(duel.play(lambda end, price, now: now - hand(0, price), 10), 3)

    def test_a_keeper_who_names_too_much(self):
        duel = Duel(PAIR, Bag.of("2 a"), Hands.of("3"))
        self.refused(NotDown, (), duel.play, lambda end, price, now: now, 10)
        self.assertEqual(([end.kind for end in duel.ends], duel.now.text, duel.alive.text), (["a", "a"], "3", "4 b"))
        self.refused(NotDown, (), duel.play, lambda end, price, now: hand(1), 10)
        self.assertEqual(len(duel.ends), 2)

    def test_a_countdown_that_goes_down_slowly(self):
        """How many ends it takes is up to the keeper."""
        for many in (0, 1, 7, 50):
            duel = Duel(SITE, Bag.of("1 index"), Hands.of("1.0"))
            answered = duel.play(lambda end, price, now: hand(0, many) if now.places > 1 else now - hand(0, price), 400)
            self.assertIs(duel.beaten, True)
            self.assertGreaterEqual(answered, many)

    def test_400_ends(self):
        duel = Duel(SITE, Bag.of("1 index"), Hands.of("2.0"))

        def keeper(end, price, now):
            return Hands((1, 300)) if now.text == "2.0" else now - hand(0, price)
        self.assertEqual(duel.play(keeper, 200), 200)
        self.assertEqual(duel.play(keeper, 100), 100)
        self.assertEqual(len(duel.ends), 300)
        self.check_state(duel)
        self.check_next(duel)


class TestRefusedArguments(Case):

    PLAN = plan_with(a_go="1 b", a_two="2 a", b_end="-", c_on="1 c", d_go="1 e", f_two="2 f", g_go="1 f", f_end="-",
                     h_go="1 c 1 f")

    def test_kinds_of_the_start_come_first(self):
        self.refused(NoKind, ("aa",), Duel, self.PLAN, Bag.of("1 a 1 aa 1 c 1 z"), hand(5))
        self.refused(NoKind, ("z",), Duel, self.PLAN, Bag.of("1 a 1 c 1 z"), hand(5))

    def test_unending_kinds_come_ahead_of_heavy_outcomes(self):
        for text, kind in (("1 a 1 c", "c"), ("1 d", "d"), ("1 e 1 f", "e"), ("1 h", "c")):
            self.refused(Unending, (kind,), Duel, self.PLAN, Bag.of(text), hand(5))
        self.refused(Unending, ("b",), Duel, plan_with(a_x="1 b", a_end="-"), Bag.of("1 a"), hand(5))
        self.refused(Unending, ("b",), Duel, plan_with(a_x=("-", "b")), Bag.of("1 a"), Hands())

    def test_heavy_outcomes_come_ahead_of_great_hands(self):
        self.refused(Heavy, ("a", "two", "second"), Duel, self.PLAN, Bag.of("1 a 1 f"), hand(5))
        self.refused(Heavy, ("f", "two", "second"), Duel, self.PLAN, Bag.of("1 g"), Hands())
        plan = Plan((("a", "end", Outcome()), ("a", "on", Outcome(Bag.of("1 a"), (), 1))))
        self.refused(Heavy, ("a", "on", "cost"), Duel, plan, Bag.of("1 a"), Hands())

    def test_hands_that_are_not_below_the_start(self):
        for first in ("2", "3", "1.0"):
            self.refused(NotBelow, (), Duel, PAIR, Bag.of("1 a"), Hands.of(first))
        for first in ("1.0.0", "1.0.1", "9.9.9.9"):
            self.refused(NotBelow, (), Duel, SITE, Bag.of("1 index"), Hands.of(first))
        for first in ("0", "1"):
            self.refused(NotBelow, (), Duel, PAIR, Bag(), Hands.of(first))


if __name__ == "__main__":
    unittest.main()
