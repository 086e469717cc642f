"""toldlate/changes.py: point [13] of DOC.md."""

import itertools
import random
import unittest
from collections import Counter

from cases import NO_NAMES, Case
from examples import run_examples
from oracles import random_bag
from searches import costly_plan, heavy_by, layered_plan, random_hands, random_start, reached_by
from toldlate import changes as module
from toldlate.bags import Bag
from toldlate.changes import alike, compared, out_word, put_word, slack, spared
from toldlate.clocks import Clock, bound, crowd, heavy, is_good, least_clock
from toldlate.errors import Heavy, NoKind, NoName, NoOutcome
from toldlate.hands import Hands, hand
from toldlate.plans import Outcome, Plan
from toldlate.texts import plan_of

EXAMPLES = r"""
    >>> build = plan_of("bit done: -\njob large: 1 pack\njob small: 1 bit\npack open: 2 part\npart done: -")
    >>> one = Bag.of("1 job")
    >>> clock = least_clock(build, one)
    >>> [clock[kind].text for kind in clock.kinds], spared(build, clock, one), slack(build, one)
    (['1', '2', '2', '1'], (('job', 'large'), ('pack', 'open')), (('bit', 'done'), ('job', 'small'), ('part', 'done')))
    >>> other = Clock((("bit", hand(0, 2)), ("job", hand(0, 2)), ("pack", hand(0, 2)), ("part", hand(0))))
    >>> is_good(build, other, one), spared(build, other, one)
    (True, (('job', 'large'), ('job', 'small'), ('pack', 'open')))
    >>> put_word(build, one, "job", "both", Outcome(Bag.of("1 bit 1 part"))), put_word(build, one, "bit", "cut", Outcome(Bag.of("3 part"))), put_word(build, one, "pack", "open", Outcome(Bag.of("1 part"))), put_word(build, one, "part", "again", Outcome(Bag.of("1 job")))
    ('same', 'greater', 'less', 'none')
    >>> out_word(build, one, "job", "small"), out_word(build, one, "job", "large"), out_word(build, one, "pack", "open")
    ('same', 'less', 'less')
    >>> turn = plan_of("a on: 1 b\na out: 2 x\nb back: 1 a\nb out: -\nx out: -")
    >>> spared(turn, least_clock(turn, Bag.of("1 a")), Bag.of("1 a")), out_word(turn, Bag.of("1 a"), "b", "back"), out_word(turn, Bag.of("1 a"), "a", "on")
    ((('a', 'on'), ('a', 'out'), ('b', 'back')), 'less', 'same')
    >>> alike(build, build.put("job", "both", Outcome(Bag.of("1 bit 1 part"))), one), alike(build, build.without("job", "small"), one)
    (True, False)
    >>> crawl = plan_of("image done: -\nindex split: - any page\npage done: - any image")
    >>> compared(build, one, Bag.of("2 part")), compared(build, Bag.of("1 bit 1 job"), Bag.of("1 pack")), compared(crawl, Bag.of("1000000 page"), Bag.of("1 index"))
    ('equal', 'more', 'less')
    >>> left, right = plan_of("a two: 2 b\nb out: -"), plan_of("a out: -\nb more: 3 c\nc out: -")
    >>> [least_clock(own, Bag.of("1 a"))["a"].text for own in (left, right, left | right)]
    ['2', '1', '6']
    >>> slack(plan_of("a out: -\na two: 2 a"), Bag.of("1 a"))
    raises Heavy(kind='a', outcome='two', word='second')
    >>> alike(build, turn, one)
    raises NoKind(kind='job')
"""

NAMES = ("spared", "slack", "alike", "compared", "put_word", "out_word")


def clock_of(**rows):
    """A Clock from rows like a="1.0"."""
    return Clock([(kind, Hands.of(text)) for kind, text in rows.items()])


def word_by(plan, changed, start):
    """The word of a change, by the words of [13]."""
    lost = [kind for kind in start.kinds if kind not in changed.kinds]
    known = Bag([(kind, number) for kind, number in start.pairs if kind not in lost])
    if any(kind in reached_by(changed, known) for kind, _ in heavy_by(changed)):
        return "none"
    before, after = least_clock(plan, start), least_clock(changed, known)
    hands = {kind: after[kind] for kind in after.kinds}
    hands.update({kind: hand(0) for kind in lost})
    both = [(before[kind], hands[kind]) for kind in hands if kind in before]
    words = {"greater" for old, new in both if new > old} | {"less" for old, new in both if new < old}
    assert len(words) <= 1, words
    return words.pop() if words else "same"


class TestExamples(unittest.TestCase):

    def test_examples_of_section_12(self):
        names = {name: getattr(module, name) for name in NAMES}
        run_examples(self, EXAMPLES, {**names, "Bag": Bag, "Clock": Clock, "Outcome": Outcome, "hand": hand,
                                      "is_good": is_good, "least_clock": least_clock, "plan_of": plan_of})


class TestSpared(Case):

    def spared_by(self, plan, clock, start):
        found = []
        for kind, name, outcome in plan.rows:
            if kind in reached_by(plan, start):
                made = [plan.notice(kind, name, Bag(tuple(zip(outcome.more, numbers)))).made
                        for numbers in itertools.product((0, 1, 5), repeat=len(outcome.more))]
                if all(clock.hands(bag) == clock[kind] for bag in made):
                    found.append((kind, name))
        return tuple(found)

    def test_by_chance(self):
        rng, sizes = random.Random(81), Counter()
        for _ in range(500):
            plan = rng.choice((costly_plan, layered_plan))(rng)
            start = random_start(rng, plan)
            clock = Clock([(kind, random_hands(rng, 2, 2)) for kind in plan.kinds])
            if rng.random() < 0.5 and not heavy(plan, start):
                clock = least_clock(plan, start)
            found = spared(plan, clock, start)
            self.assertEqual(found, self.spared_by(plan, clock, start))
            self.assertEqual(spared(start=start, clock=clock, plan=plan), found)
            sizes[len(found)] += 1
            if is_good(plan, clock, start):
                for pair in found:
                    outcome = plan[pair]
                    self.assertEqual((outcome.cost, outcome.more), (0, ()))
                    self.assertNotEqual(outcome.makes, Bag())
        self.assertGreater(len(sizes), 4)

    def test_a_cost_does_not_count(self):
        plan = plan_of("a go: 1 b cost 3\na on: 1 b\nb end: - cost 2")
        self.assertEqual(spared(plan, clock_of(a="4", b="4"), Bag.of("1 a")), (("a", "go"), ("a", "on")))
        self.assertEqual(spared(plan, least_clock(plan, Bag.of("1 a")), Bag.of("1 a")), ())

    def test_any_numbers_of_kinds_whose_hands_are_zero(self):
        plan = plan_of("a go: 1 b any z\na no: 1 b any b z\nb end: -\nz end: -\nz more: - any z\nz three: 3 z")
        self.assertEqual(spared(plan, clock_of(a="2", b="2", z="0"), Bag.of("1 a")),
                         (("a", "go"), ("z", "end"), ("z", "more"), ("z", "three")))

    def test_what_is_not_reached(self):
        plan = plan_of("a on: 1 a\na end: -\nb on: 1 b")
        self.assertEqual(spared(plan, clock_of(a="1"), Bag.of("1 a")), (("a", "on"),))
        self.assertEqual(spared(plan, clock_of(a="1", b="1", c="7"), Bag.of("1 a 1 b")), (("a", "on"), ("b", "on")))
        self.assertEqual(spared(plan, Clock(()), Bag()), ())

    def test_heavy_outcomes_do_not_matter(self):
        plan = plan_of("a two: 2 a\na on: 1 a")
        self.assertEqual(spared(plan, clock_of(a="1"), Bag.of("1 a")), (("a", "on"),))

    def test_kinds_that_the_clock_does_not_have(self):
        plan = plan_of("a go: 1 c any b\nb end: -\nc end: -")
        self.refused(NoKind, ("b",), spared, plan, clock_of(a="1"), Bag.of("1 a"))
        self.refused(NoKind, ("c",), spared, plan, clock_of(a="1", b="1"), Bag.of("1 a"))
        self.refused(NoKind, ("a",), spared, plan, Clock(()), Bag.of("1 a"))
        plan = plan_of("a go: 1 d\nb end: -\nd go: 1 b 1 c")
        self.refused(NoKind, ("b",), spared, plan, clock_of(a="1"), Bag.of("1 a"))
        self.refused(NoKind, ("c",), spared, plan, clock_of(a="1", b="1", d="2"), Bag.of("1 a"))


class TestSlack(Case):

    def test_by_chance(self):
        rng, sizes = random.Random(82), Counter()
        for _ in range(300):
            plan = layered_plan(rng)
            start = random_start(rng, plan)
            clock = least_clock(plan, start)
            expected = tuple((kind, name) for kind, name, outcome in plan.rows
                             if kind in reached_by(plan, start) and bound(clock, outcome) < clock[kind])
            found = slack(plan, start)
            self.assertEqual(found, expected)
            self.assertEqual(slack(start=start, plan=plan), expected)
            sizes[len(found)] += 1
            fewer = plan
            for pair in found:
                self.assertEqual(out_word(plan, start, *pair), "same")
                fewer = fewer.without(*pair)
            known = Bag([pair for pair in start.pairs if pair[0] in fewer.kinds])
            after = least_clock(fewer, known)
            for kind in after.kinds:
                self.assertEqual(after[kind], clock[kind])
        self.assertGreater(len(sizes), 5)

    def test_outcomes_that_stay_are_not_slack(self):
        plan = plan_of("a on: 1 b\nb back: 1 a\nb out: 3 c\na end: -\nc end: -")
        self.assertEqual(slack(plan, Bag.of("1 a")), (("a", "end"), ("c", "end")))
        self.assertEqual(slack(plan, Bag()), ())


class TestAlike(Case):

    def test_by_chance(self):
        rng, said = random.Random(83), Counter()
        for _ in range(500):
            plan = layered_plan(rng, 3)
            start = random_start(rng, plan)
            kind, name, _ = rng.choice(plan.rows)
            other = rng.choice((plan, layered_plan(rng, 3), plan.without(kind, name),
                                plan.put(kind, name, Outcome(random_bag(rng, plan.kinds)))))
            if set(start.kinds) - set(other.kinds) or heavy(other, start):
                continue
            one, two = least_clock(plan, start), least_clock(other, start)
            found = alike(plan, other, start)
            self.assertIs(found, one == two)
            self.assertIs(alike(other=other, start=start, plan=plan), found)
            self.assertIs(alike(other, plan, start), found)
            self.assertIs(found, reached_by(plan, start) == reached_by(other, start)
                          and is_good(plan, two, start) and is_good(other, one, start))
            said[found] += 1
        self.assertGreater(min(said.values()), 50)

    def test_errors_of_the_first_plan_come_first(self):
        good, bad = plan_of("a end: -"), plan_of("a two: 2 a")
        other = plan_of("b two: 2 b")
        self.refused(Heavy, ("a", "two", "second"), alike, good, bad, Bag.of("1 a"))
        self.refused(Heavy, ("a", "two", "second"), alike, bad, other, Bag.of("1 a"))
        self.refused(NoKind, ("a",), alike, good, other, Bag.of("1 a"))
        self.refused(NoKind, ("a",), alike, other, bad, Bag.of("1 a 1 b"))
        self.refused(NoKind, ("b",), alike, good, other, Bag.of("1 a 1 b"))
        self.assertIs(alike(good, other, Bag()), True)

    def test_other_kinds_that_are_not_reached(self):
        one, two = plan_of("a end: -\nz two: 2 z"), plan_of("a end: -\na on: 1 a")
        self.assertIs(alike(one, two, Bag.of("3 a")), True)
        self.assertIs(alike(one, two.put("a", "on", Outcome(Bag.of("1 b"))), Bag.of("3 a")), False)


class TestCompared(Case):

    def test_by_chance(self):
        rng, said = random.Random(84), Counter()
        for _ in range(400):
            chance = rng.choice((0, 0.3))
            plan = layered_plan(rng, 4, chance)
            bag, other = random_start(rng, plan), random_start(rng, plan)
            clock = least_clock(plan, bag + other)
            one, two = clock.hands(bag), clock.hands(other)
            expected = "equal" if one == two else "less" if one < two else "more"
            self.assertEqual(compared(plan, bag, other), expected)
            self.assertEqual(compared(other=other, bag=bag, plan=plan), expected)
            said[expected] += 1
            free = Plan([(kind, name, Outcome(outcome.makes)) for kind, name, outcome in plan.rows])
            crowds = [crowd(free, own) for own in (bag, other)]
            self.assertEqual(compared(free, bag, other),
                             ("equal", "more", "less")[(crowds[0] > crowds[1]) - (crowds[0] < crowds[1])])
        self.assertGreater(min(said.values()), 30)

    def test_both_bags_are_the_start(self):
        plan = plan_of("a end: -\nb end: -\ng two: 2 g")
        self.assertEqual(compared(plan, Bag(), Bag()), "equal")
        self.assertEqual(compared(plan, Bag.of("1 a"), Bag()), "more")
        for bag, other in (("1 a 1 y", "1 x"), ("1 y", "1 g 1 x"), ("1 x", "1 a")):
            self.refused(NoKind, ("x",), compared, plan, Bag.of(bag), Bag.of(other))
        for bag, other in (("1 a", "1 g"), ("1 g", "-")):
            self.refused(Heavy, ("g", "two", "second"), compared, plan, Bag.of(bag), Bag.of(other))


class TestWords(Case):

    def change(self, rng, plan):
        """A kind, a name and an Outcome by chance, in the place of another one or new."""
        kinds = plan.kinds + ("new",)
        rows = list(plan.rows)
        if rng.random() < 0.4:
            kind, name, outcome = rng.choice(rows)
            return kind, name, Outcome(random_bag(rng, kinds), (), rng.choice((0, 0, 1, outcome.cost)))
        more = (rng.choice(kinds),) if rng.random() < 0.1 else ()
        return rng.choice(kinds), rng.choice("pqrv"), Outcome(random_bag(rng, kinds), more, rng.choice((0, 0, 0, 2)))

    def test_put_word_by_chance(self):
        rng, said = random.Random(85), Counter()
        for _ in range(1500):
            plan = layered_plan(rng, 4)
            start = random_start(rng, plan)
            kind, name, outcome = self.change(rng, plan)
            word = put_word(plan, start, kind, name, outcome)
            self.assertEqual(word, word_by(plan, plan.put(kind, name, outcome), start))
            self.assertEqual(put_word(outcome=outcome, name=name, kind=kind, start=start, plan=plan), word)
            said[word] += 1
            clock = least_clock(plan, start)
            if kind not in clock:
                self.assertEqual(word, "same")
            elif (kind, name) not in plan and all(made in clock for made in outcome.makes.kinds + outcome.more):
                self.assertEqual(word == "same", bound(clock, outcome) <= clock[kind])
        self.assertGreater(min(said[word] for word in ("same", "greater", "less", "none")), 20, said)

    def test_out_word_by_chance(self):
        rng, said = random.Random(86), Counter()
        for _ in range(800):
            plan = layered_plan(rng, 4)
            start = random_start(rng, plan)
            kind, name, _ = rng.choice(plan.rows)
            word = out_word(plan, start, kind, name)
            self.assertEqual(word, word_by(plan, plan.without(kind, name), start))
            self.assertEqual(out_word(name=name, kind=kind, start=start, plan=plan), word)
            said[word] += 1
        self.assertEqual(set(said), {"same", "less"})
        self.assertGreater(min(said.values()), 50)

    def test_a_kind_of_the_start_that_the_changed_plan_does_not_know(self):
        plan = plan_of("a go: 5 b\nc end: -")
        self.assertEqual(out_word(plan, Bag.of("1 a 1 c"), "a", "go"), "less")
        self.assertEqual(out_word(plan, Bag.of("1 a 1 b 1 c"), "a", "go"), "less")
        self.assertEqual(out_word(plan, Bag.of("1 b 1 c"), "a", "go"), "same")
        self.assertEqual(out_word(plan, Bag.of("1 c"), "c", "end"), "same")
        self.assertEqual(out_word(plan_of("c end: - cost 7"), Bag.of("1 c"), "c", "end"), "less")
        self.assertEqual(put_word(plan, Bag.of("1 b"), "a", "go", Outcome()), "same")
        self.assertEqual(put_word(plan, Bag.of("1 a 1 b"), "a", "go", Outcome(Bag.of("1 c"))), "less")
        self.assertEqual(put_word(plan, Bag.of("1 a 1 b"), "a", "go", Outcome(Bag.of("2 a"))), "none")

    def test_an_empty_start(self):
        plan = plan_of("a two: 2 a")
        self.assertEqual(put_word(plan, Bag(), "a", "on", Outcome(Bag.of("1 a"))), "same")
        self.assertEqual(out_word(plan, Bag(), "a", "two"), "same")

    def test_costs_and_any_numbers(self):
        plan, one = plan_of("a go: 1 b\nb end: -"), Bag.of("1 a")
        for outcome, word in ((Outcome(cost=1), "same"), (Outcome(cost=2), "greater"),
                              (Outcome(Bag(), ("b",)), "greater"), (Outcome(Bag.of("1 a")), "same"),
                              (Outcome(Bag.of("1 a"), (), 1), "none"), (Outcome(Bag(), ("a",)), "none")):
            self.assertEqual(put_word(plan, one, "a", "new", outcome), word)
        self.assertEqual(put_word(plan, one, "b", "end", Outcome(Bag.of("1 a"))), "same")

    def test_two_editions_together(self):
        rng, said = random.Random(87), Counter()
        for _ in range(600):
            plan = layered_plan(rng, 3, 0.1)
            other = Plan([(kind, name + "x", outcome) for kind, name, outcome in layered_plan(rng, 3, 0.1).rows])
            start = random_start(rng, plan, 2)
            if set(start.kinds) - set(other.kinds):
                continue
            both = plan | other
            if heavy(both, start):
                said["missing"] += 1
                continue
            one, two, clock = (least_clock(own, start) for own in (plan, other, both))
            for own in (one, two):
                for kind in own.kinds:
                    self.assertGreaterEqual(clock[kind], own[kind])
            said["greater than both"] += any(clock[kind] > one[kind] and clock[kind] > two[kind]
                                             for kind in clock.kinds if kind in one and kind in two)
        self.assertGreater(min(said["missing"], said["greater than both"]), 5, said)


class TestRefusedArguments(Case):

    BAD = plan_of("a end: -\na two: 2 a\nb end: -")

    def calls(self, plan, start):
        return ((spared, (plan, Clock(()), start)), (slack, (plan, start)), (alike, (plan, Plan(), start)),
                (compared, (plan, start, Bag())), (compared, (plan, Bag(), start)),
                (put_word, (plan, start, "A", "B", Outcome())), (out_word, (plan, start, "A", "B")))

    def test_kinds_of_the_start_come_first(self):
        for text, kind in (("1 a 1 aa 1 c", "aa"), ("1 a 1 z", "z")):
            for call, arguments in self.calls(self.BAD, Bag.of(text)):
                self.refused(NoKind, (kind,), call, *arguments)

    def test_heavy_outcomes_come_next(self):
        for call, arguments in self.calls(self.BAD, Bag.of("1 a 1 b")):
            if call != spared:
                self.refused(Heavy, ("a", "two", "second"), call, *arguments)

    def test_what_put_refuses(self):
        for value in NO_NAMES:
            self.refused(NoName, (value,), put_word, self.BAD, Bag.of("1 b"), value, "A", Outcome())
            self.refused(NoName, (value,), put_word, self.BAD, Bag.of("1 b"), "b", value, Outcome())

    def test_what_without_refuses(self):
        for value in NO_NAMES + ("z",):
            self.refused(NoKind, (value,), out_word, self.BAD, Bag.of("1 b"), value, "end")
            self.refused(NoOutcome, ("b", value), out_word, self.BAD, Bag.of("1 b"), "b", value)


if __name__ == "__main__":
    unittest.main()
