"""toldlate/clocks.py: point [10] of DOC.md, and the guarantees (d) and (e) of [1]."""

import itertools
import random
import unittest
from collections import Counter

from cases import NO_NAMES, AlwaysEqual, Case, plan_with
from examples import run_examples
from oracles import made_by
from searches import (costly_plan, greatest_cost, greatest_crowd, greatest_length, heavy_by, highest, layered_plan,
                      random_hands, random_start, reached_by)
from toldlate import clocks as module
from toldlate.bags import Bag
from toldlate.clocks import (Clock, any_way, bound, breach, crowd, crowd_ends, dearest, hands_needed, heavy,
                             heavy_round, is_good, least_clock, longest)
from toldlate.errors import BelowZero, Heavy, NoKind
from toldlate.hands import Hands, hand
from toldlate.plans import Outcome, Plan
from toldlate.rounds import is_round
from toldlate.runs import is_run, left

EXAMPLES = r"""
    >>> crawl = Plan((("image", "done", Outcome()), ("index", "split", Outcome(more=("page",))), ("note", "done", Outcome(cost=3)), ("page", "done", Outcome(Bag((("note", 2),)), more=("image",))), ("page", "gone", Outcome())))
    >>> start = Bag((("index", 1), ("note", 2)))
    >>> clock = least_clock(crawl, start)
    >>> [clock[kind].numbers for kind in clock.kinds], clock.hands(start).numbers
    ([(1,), (1, 0, 0), (3,), (1, 0)], (1, 0, 6))
    >>> least_clock(crawl, start, costs=False)["note"].numbers, hands_needed(crawl, start), any_way(crawl, start)
    ((1,), 3, (('index', 'split', 'page'), ('page', 'done', 'image')))
    >>> bound(clock, crawl["page", "done"]).numbers, bound(clock, crawl["page", "gone"]).numbers, bound(clock, crawl["note", "done"]).numbers
    ((1, 0), (), (3,))
    >>> flat = Clock((("image", Hands((1,))), ("index", Hands((9,))), ("note", Hands((3,))), ("page", Hands((0,)))))
    >>> is_good(crawl, clock, start), breach(crawl, clock, start), breach(crawl, flat, start), breach(crawl, Clock(()), start)
    (True, None, ('zero', 'page'), ('lacking', 'image'))
    >>> pages = Plan((("page", "last", Outcome()), ("page", "next", Outcome(Bag((("page", 1),))))))
    >>> twice = pages.put("page", "split", Outcome(Bag((("page", 2),))))
    >>> one = Bag((("page", 1),))
    >>> least_clock(pages, one)["page"].numbers, heavy(pages, one), heavy(twice, one), heavy_round(twice, one)[0]
    ((1,), (), (('page', 'split'),), ('page', 'split'))
    >>> least_clock(twice, one)
    raises Heavy(kind='page', outcome='split', word='second')
    >>> build = Plan((("job", "fork", Outcome(Bag((("part", 2),)), cost=1)), ("log", "end", Outcome()), ("part", "run", Outcome(Bag((("log", 1),)), cost=2))))
    >>> three = Bag((("job", 3),))
    >>> crowd(build, three), longest(build, three), dearest(build, three), [many for notice, many in crowd_ends(build, three) if notice.outcome == "fork"]
    (6, 15, 15, [3])
    >>> crowd(crawl, start), crowd(pages, one), crowd(twice, one), crowd_ends(twice, one), longest(pages, one), dearest(pages, one)
    (None, 1, None, None, None, 0)
"""

NAMES = ("Clock", "is_good", "breach", "heavy", "heavy_round", "bound", "least_clock", "hands_needed", "any_way",
         "crowd", "crowd_ends", "longest", "dearest")
# So many that what is made of them is above all Hands that stand in these tests.
COUNTLESS = 10 ** 90


def clock_of(**rows):
    """A Clock from rows like a="1.0"."""
    return Clock([(kind, Hands.of(text)) for kind, text in rows.items()])


def costing(plan, **costs):
    """The plan with these costs, from rows like a_go=3."""
    for word, cost in costs.items():
        kind, name = word.split("_")
        outcome = plan[kind, name]
        plan = plan.put(kind, name, Outcome(outcome.makes, outcome.more, cost))
    return plan


def bound_by(hands, outcome):
    """The bound of an outcome, place by place, by the words of [10]; hands is a dict of rows."""
    rows = [[number * made for made in hands[kind]] for kind, number in outcome.makes.pairs] + [[outcome.cost]]
    size = 1 + max(len(row) for row in rows + [hands[kind] for kind in outcome.more])
    numbers = [sum(row[len(row) - size + at] for row in rows if len(row) - size + at >= 0) for at in range(size)]
    places = max([len(hands[kind]) for kind in outcome.more], default=0)
    if places:
        numbers = numbers[:size - places] + [0] * places
        numbers[size - places - 1] += 1
    while numbers and not numbers[0]:
        numbers = numbers[1:]
    return numbers


def least_by(plan, kinds, rounds=300):
    """The least Hands, raised from 1 until nothing rises any more; None if it goes on."""
    hands = {kind: [1] for kind in kinds}
    for _ in range(rounds):
        wanted = [(kind, bound_by(hands, outcome)) for kind, _, outcome in plan.rows if kind in kinds]
        rising = [(kind, row) for kind, row in wanted if (len(row), row) > (len(hands[kind]), hands[kind])]
        if not rising:
            return hands
        for kind, row in rising:
            if (len(row), row) > (len(hands[kind]), hands[kind]):
                hands[kind] = row
    return None


class TestExamples(unittest.TestCase):

    def test_examples_of_section_9(self):
        names = {name: getattr(module, name) for name in NAMES}
        run_examples(self, EXAMPLES, {**names, "Bag": Bag, "Hands": Hands, "Outcome": Outcome, "Plan": Plan})


class TestClock(Case):

    def test_it_is_defined_in_its_file(self):
        self.assertEqual(Clock.__module__, "toldlate.clocks")
        for name in ("kinds", "hands", "__getitem__", "__contains__", "__eq__"):
            self.assertIn(name, vars(Clock))

    def test_kinds_ascend(self):
        for order in itertools.permutations((("b", hand(0)), ("ab", hand(1)), ("a", Hands()))):
            for pairs in (order, [list(pair) for pair in order]):
                clock = Clock(pairs)
                self.assertEqual(clock.kinds, ("a", "ab", "b"))
                self.assertEqual([clock[kind].text for kind in clock.kinds], ["0", "1.0", "1"])
        self.assertEqual((Clock(()).kinds, Clock(pairs=[]).kinds), ((), ()))

    def test_hands_with_a_number_below_0(self):
        for text in ("1.-1", "2.0.-5", "1.-1.7"):
            self.refused(BelowZero, (), Clock, (("a", hand(0)), ("b", Hands.of(text))))
            self.refused(BelowZero, (), Clock, pairs=[["b", Hands.of(text)]])

    def test_hands_of_a_bag(self):
        clock = clock_of(a="1.0.2", b="7", c="0")
        for text, expected in (("-", ()), ("1 a", (1, 0, 2)), ("3 a 2 b", (3, 0, 20)), ("5 c", ()),
                               ("2 b 4 c", (14,)), (f"{10 ** 30} b", (7 * 10 ** 30,))):
            self.assertEqual(clock.hands(Bag.of(text)).numbers, expected)
            self.assertEqual(clock.hands(bag=Bag.of(text)), Hands(expected))
        self.refused(NoKind, ("aa",), clock.hands, Bag.of("1 a 1 aa 2 b 1 z"))
        self.assertEqual(clock.hands(Bag((("z", 0), ("b", 1)))).text, "7")

    def test_what_is_no_kind_of_it(self):
        clock = clock_of(a="1", ab="2")
        for value in NO_NAMES + ("b", "aa", "abc"):
            self.assertIs(value in clock, False)
            self.refused(NoKind, (value,), lambda: clock[value])
        for value in ("a", "ab"):
            self.assertIs(value in clock, True)
        for value in ((), [], ["a"], ("a",), {}):
            self.assertIs(value in clock, False)

    def test_equal(self):
        clock = clock_of(a="1", b="1.0")
        self.assertIs(clock == clock_of(b="1.0", a="1"), True)
        self.assertIs(clock != clock_of(b="1.0", a="1"), False)
        self.assertIs(Clock(()) == Clock([]), True)
        for other in (clock_of(a="1", b="1.1"), clock_of(a="1"), clock_of(a="1", b="1.0", c="0"),
                      clock_of(a="1", c="1.0"), Clock(())):
            self.assertIs(clock == other, False)
            self.assertIs(clock != other, True)
        self.equals_nothing_else(clock, (None, 0, (), (("a", hand(0)),), Bag(), Plan(), hand(0), AlwaysEqual()))

    def test_it_copies_its_pairs(self):
        pairs = [["b", hand(0)], ["a", hand(1)]]
        clock = Clock(pairs)
        pairs[0][1] = hand(5)
        pairs.append(["c", hand(2)])
        self.assertEqual((clock.kinds, clock["b"].text), (("a", "b"), "1"))
        with self.assertRaises(AttributeError):
            clock.kinds = ()
        with self.assertRaises(TypeError):
            iter(clock)


class TestBound(Case):

    def test_by_chance(self):
        rng = random.Random(41)
        for _ in range(500):
            plan = costly_plan(rng)
            clock = Clock([(kind, random_hands(rng)) for kind in plan.kinds])
            for _, _, outcome in plan.rows:
                found = bound(clock, outcome)
                self.assertIs(found.plain, True)
                self.assertEqual(list(found.numbers), bound_by({kind: clock[kind].numbers for kind in clock.kinds},
                                                               outcome))
                for many in (0, 1, 9, COUNTLESS):
                    self.assertLessEqual(highest(clock, outcome, many), found)
                self.check_none_is_less(clock, outcome, found)

    def check_none_is_less(self, clock, outcome, found):
        """Any plain Hands that are less are below what is made if enough is chosen."""
        top = highest(clock, outcome, COUNTLESS)
        for place in range(found.places):
            row = list(found.numbers)
            at = found.places - 1 - place
            if row[at] > 0:
                less = row[:at] + [row[at] - 1] + [10 ** 80] * place
                if any(clock[kind].places for kind in outcome.more):
                    self.assertGreater(top, Hands(less))
        if not any(clock[kind].places for kind in outcome.more):
            self.assertEqual(found, top)

    def test_any_numbers(self):
        clock = clock_of(a="3", b="2.5", c="1.0.0", z="0")
        for outcome, expected in (
                (Outcome(), "0"), (Outcome(cost=7), "7"), (Outcome(Bag.of("2 b"), (), 1), "4.11"),
                (Outcome(Bag(), ("a",)), "1.0"), (Outcome(Bag(), ("a", "b")), "1.0.0"),
                (Outcome(Bag.of("2 b"), ("a",), 9), "5.0"), (Outcome(Bag.of("2 b"), ("b",), 9), "1.0.0"),
                (Outcome(Bag.of("2 b 1 c"), ("b",)), "2.0.0"),
                (Outcome(Bag.of("1 a"), ("c",)), "1.0.0.0"), (Outcome(Bag.of("1 a"), ("z",), 2), "5"),
                (Outcome(Bag.of("9 z"), ("a", "z")), "1.0"), (Outcome(Bag(), ("z",)), "0"),
                (Outcome(Bag.of("1 c"), ("a",), 10 ** 30), "1.1.0")):
            self.assertEqual(bound(clock, outcome).text, expected)
            self.assertEqual(bound(outcome=outcome, clock=clock).text, expected)

    def test_kinds_that_the_clock_does_not_have(self):
        clock = clock_of(b="1")
        self.refused(NoKind, ("a",), bound, clock, Outcome(Bag.of("1 b 1 c"), ("a", "b")))
        self.refused(NoKind, ("c",), bound, clock, Outcome(Bag.of("1 b 1 c"), ("d",)))
        self.refused(NoKind, ("b",), bound, Clock(()), Outcome(Bag(), ("b",)))
        self.assertEqual(bound(Clock(()), Outcome(cost=2)).text, "2")


class TestIsGood(Case):

    def is_good_by(self, plan, clock, start):
        kinds = reached_by(plan, start)
        return all(kind in clock and clock[kind] != Hands() for kind in kinds) and not any(
            highest(clock, outcome, COUNTLESS) > clock[kind] for kind, _, outcome in plan.rows if kind in kinds)

    def check_breach(self, plan, clock, start, found):
        kinds = sorted(reached_by(plan, start))
        lacking = [kind for kind in kinds if kind not in clock]
        zero = [kind for kind in kinds if kind in clock and clock[kind] == Hands()]
        self.assertIsInstance(found, tuple)
        word, value = found
        if lacking or zero:
            self.assertEqual(found, ("lacking", lacking[0]) if lacking else ("zero", zero[0]))
            return word
        self.assertEqual(word, "rises")
        self.assertIn(value.kind, kinds)
        self.assertIs(plan.fits(value), True)
        made = clock.hands(value.made) + hand(0, plan[value.kind, value.outcome].cost)
        self.assertGreater(made, clock[value.kind])
        return word

    def test_by_chance(self):
        rng, said = random.Random(42), Counter()
        for _ in range(1500):
            plan = rng.choice((costly_plan, layered_plan))(rng)
            start = random_start(rng, plan)
            clock = self.some_clock(rng, plan)
            expected = self.is_good_by(plan, clock, start)
            self.assertIs(is_good(plan, clock, start), expected)
            found = breach(plan, clock, start)
            self.assertIs(found is None, expected)
            said["good" if expected else self.check_breach(plan, clock, start, found)] += 1
        self.assertGreater(min(said[word] for word in ("good", "lacking", "zero", "rises")), 50, said)

    def some_clock(self, rng, plan):
        """A Clock by chance, or one that is not far from a good one."""
        hands = least_by(plan, plan.kinds, 30)
        if hands is None or rng.random() < 0.3:
            return Clock([(kind, random_hands(rng)) for kind in plan.kinds if rng.random() < 0.95])
        pairs = [(kind, Hands(row) + random_hands(rng, 2, 1) * rng.randint(0, 1)) for kind, row in hands.items()]
        if rng.random() < 0.3:
            pairs[rng.randrange(len(pairs))] = (rng.choice(plan.kinds), random_hands(rng, 2))
        return Clock(list(dict(pairs).items()))

    def test_more_kinds_and_none(self):
        plan = plan_with(a_two="2 b", b_end="-", z_two="2 z")
        clock = clock_of(a="2", b="1", y="0", z="0")
        self.assertIs(is_good(plan, clock, Bag.of("1 a")), True)
        self.assertEqual(breach(plan, clock, Bag.of("1 a 1 z")), ("zero", "z"))
        for some in (clock, Clock(())):
            self.assertIs(is_good(plan, some, Bag()), True)
            self.assertIs(breach(start=Bag(), clock=some, plan=plan), None)
        self.assertEqual(breach(plan, Clock(()), Bag.of("1 a")), ("lacking", "a"))

    def test_lacking_comes_before_zero_and_zero_before_rises(self):
        plan = plan_with(a_two="2 b", b_end="-", c_end="-")
        start = Bag.of("1 a 1 c")
        self.assertEqual(breach(plan, clock_of(a="0", b="0"), start), ("lacking", "c"))
        self.assertEqual(breach(plan, clock_of(a="1", b="1", c="0"), start), ("zero", "c"))
        word, notice = breach(plan, clock_of(a="1", b="1", c="1"), start)
        self.assertEqual((word, notice.kind, notice.outcome), ("rises", "a", "two"))
        self.assertIs(is_good(plan, clock_of(a="2", b="1", c="1"), start), True)

    def test_costs_count_at_the_last_hand(self):
        plan = costing(plan_with(a_go="1 b", b_end="-"), a_go=3, b_end=2)
        self.assertIs(is_good(plan, clock_of(a="5", b="2"), Bag.of("1 a")), True)
        for clock in (clock_of(a="4", b="2"), clock_of(a="5", b="1")):
            self.assertIs(is_good(plan, clock, Bag.of("1 a")), False)
        self.assertIs(is_good(plan, clock_of(a="1.0", b="2"), Bag.of("1 a")), True)

    def test_a_notice_that_rises_by_any_numbers(self):
        plan = plan_with(a_more=("1 b", "b", "c"), b_end="-", c_end="-")
        for text in ("1", "9", "2.7", "70.70"):
            clock = clock_of(a=text, b="1", c="1.5")
            self.assertEqual(self.check_breach(plan, clock, Bag.of("1 a"), breach(plan, clock, Bag.of("1 a"))), "rises")
        self.assertIs(is_good(plan, clock_of(a="1.0.0", b="1", c="1.5"), Bag.of("1 a")), True)


class TestHeavy(Case):

    def word_by(self, outcome):
        if outcome.more:
            return "any"
        return "second" if outcome.makes.jobs >= 2 else "cost"

    def test_by_chance(self):
        rng, said = random.Random(43), Counter()
        for _ in range(800):
            plan = costly_plan(rng)
            start = random_start(rng, plan)
            kinds = reached_by(plan, start)
            expected = tuple(sorted(pair for pair in heavy_by(plan) if pair[0] in kinds))
            self.assertEqual(heavy(plan, start), expected)
            found = heavy_round(plan, start)
            if not expected:
                self.assertIsNone(found)
                self.assertIs(is_good(plan, least_clock(plan, start), start), True)
                continue
            self.assertIs(is_round(plan, found), True)
            self.assertIn(found[0], expected)
            self.assertLessEqual({kind for kind, _ in found}, kinds)
            self.assertEqual(heavy_round(start=start, plan=plan), found)
            word = self.word_by(plan[expected[0]])
            said[word] += 1
            for call in (least_clock, hands_needed, any_way):
                self.refused(Heavy, expected[0] + (word,), call, plan, start)
        self.assertGreater(min(said[word] for word in ("any", "second", "cost")), 20, said)

    def test_words_beside_each_other(self):
        one = Bag.of("1 a")
        for rows, costs, word in (
                ({"a_x": ("-", "a")}, {}, "any"), ({"a_x": ("1 a", "b")}, {"a_x": 1}, "any"),
                ({"a_x": ("2 a", "b")}, {}, "any"), ({"a_x": ("1 b", "a")}, {"a_x": 4}, "any"),
                ({"a_x": "2 a"}, {}, "second"), ({"a_x": "1 a 1 b"}, {"a_x": 9}, "second"),
                ({"a_x": "1 a 5 b"}, {}, "second"), ({"a_x": "1 a"}, {"a_x": 1}, "cost"),
                ({"a_x": "1 b", "b_y": "1 a"}, {"a_x": 10 ** 30}, "cost")):
            plan = costing(plan_with(**rows, b_end="-"), **costs)
            self.assertEqual(heavy(plan, one), (("a", "x"),))
            self.refused(Heavy, ("a", "x", word), least_clock, plan, one)

    def test_the_least_heavy_outcome_is_told(self):
        plan = costing(plan_with(a_end="-", a_go="1 b", b_c="1 a", b_d="2 b", b_e=("1 b", "c"), c_end="-"), b_c=1)
        self.assertEqual(heavy(plan, Bag.of("1 c")), ())
        for text in ("1 a", "1 b", "1 a 1 b 1 c"):
            self.assertEqual(heavy(plan, Bag.of(text)), (("b", "c"), ("b", "d"), ("b", "e")))
            self.refused(Heavy, ("b", "c", "cost"), least_clock, plan, Bag.of(text))
            self.refused(Heavy, ("b", "d", "second"), least_clock, plan.without("b", "c"), Bag.of(text))
            self.refused(Heavy, ("b", "e", "any"), least_clock, plan.without("b", "d"), Bag.of(text), costs=False)

    def test_what_is_not_heavy(self):
        plan = costing(plan_with(a_go="1 b", b_back="1 a", b_out=("9 c", "c"), c_end="-", z_two="2 z"),
                       b_out=5, c_end=10 ** 30)
        self.assertEqual((heavy(plan, Bag.of("3 a")), heavy_round(plan, Bag.of("3 a"))), ((), None))
        self.assertEqual((heavy(plan, Bag()), heavy_round(plan, Bag())), ((), None))
        self.assertEqual(heavy(plan, Bag.of("1 a 1 z")), (("z", "two"),))

    def test_kinds_that_only_lead_to_a_heavy_outcome_reach_it(self):
        plan = plan_with(a_go="1 b", b_on=("-", "c"), c_two="2 c")
        self.assertEqual(heavy(plan, Bag.of("1 a")), (("c", "two"),))
        self.assertEqual(heavy_round(plan, Bag.of("1 a")), (("c", "two"),))
        self.refused(Heavy, ("c", "two", "second"), least_clock, plan, Bag.of("1 a"))


class TestLeastClock(Case):

    def test_by_chance(self):
        """(d): it is what Hands rise to from 1, and they rise for ever if an outcome is heavy."""
        rng, said = random.Random(44), Counter()
        for _ in range(900):
            plan = rng.choice((costly_plan, layered_plan, layered_plan))(rng)
            start = random_start(rng, plan)
            kinds = sorted(reached_by(plan, start))
            hands = least_by(plan, kinds)
            said[hands is None] += 1
            self.assertIs(hands is None, len(heavy(plan, start)) > 0)
            if hands is None:
                self.assertRaises(Heavy, least_clock, plan, start)
                continue
            clock = least_clock(plan, start)
            self.assertEqual(clock.kinds, tuple(kinds))
            self.assertEqual([list(clock[kind].numbers) for kind in kinds], [hands[kind] for kind in kinds])
            self.assertIs(is_good(plan, clock, start), True)
            self.assertEqual(least_clock(start=start, plan=plan, costs=True), clock)
        self.assertGreater(min(said.values()), 100)

    def test_no_good_clock_has_less(self):
        rng, tried = random.Random(45), 0
        for _ in range(300):
            plan = layered_plan(rng, 3)
            start = random_start(rng, plan)
            least = least_clock(plan, start)
            clock = Clock([(kind, random_hands(rng, 3, 4)) for kind in plan.kinds])
            if is_good(plan, clock, start):
                tried += 1
                for kind in least.kinds:
                    self.assertLessEqual(least[kind], clock[kind])
            for kind in least.kinds:
                self.check_lowered(plan, start, least, kind)
        self.assertGreater(tried, 30)

    def check_lowered(self, plan, start, least, kind):
        for at, number in enumerate(least[kind].numbers):
            if number > 0:
                row = list(least[kind].numbers)
                row[at:] = [number - 1] + [10 ** 6] * (len(row) - at - 1)
                pairs = [(own, Hands(row) if own == kind else least[own]) for own in least.kinds]
                self.assertIs(is_good(plan, Clock(pairs), start), False)

    def test_without_costs(self):
        rng, said = random.Random(46), Counter()
        for _ in range(400):
            plan = rng.choice((costly_plan, layered_plan))(rng)
            start = random_start(rng, plan)
            free = Plan([(kind, name, Outcome(outcome.makes, outcome.more)) for kind, name, outcome in plan.rows])
            found = heavy(free, start)
            said[len(found) > 0] += 1
            if found:
                values = found[0] + (self.word_of(free[found[0]]),)
                self.refused(Heavy, values, least_clock, plan, start, costs=False)
            else:
                self.assertEqual(least_clock(plan, start, costs=False), least_clock(free, start))
        self.assertGreater(min(said.values()), 50)

    def word_of(self, outcome):
        return "any" if outcome.more else "second"

    def test_costs_that_are_not_counted_make_nothing_heavy(self):
        plan = costing(plan_with(a_on="1 a", a_end="-"), a_on=2, a_end=3)
        self.refused(Heavy, ("a", "on", "cost"), least_clock, plan, Bag.of("1 a"))
        self.refused(Heavy, ("a", "on", "cost"), least_clock, plan, Bag.of("1 a"), costs=True)
        self.assertEqual(least_clock(plan, Bag.of("1 a"), costs=False), clock_of(a="1"))
        self.assertEqual(heavy(plan, Bag.of("1 a")), (("a", "on"),))

    def test_costs_are_passed_by_name_alone(self):
        with self.assertRaises(TypeError):
            least_clock(plan_with(a_end="-"), Bag.of("1 a"), False)

    def test_an_empty_start(self):
        plan = plan_with(a_two="2 a")
        self.assertEqual(least_clock(plan, Bag()), Clock(()))
        self.assertEqual((hands_needed(plan, Bag()), any_way(plan, Bag())), (0, ()))

    def test_costs_of_0_and_great_ones(self):
        plan = costing(plan_with(a_go="2 b", b_end="-", b_out="1 c", c_end="-"), a_go=10 ** 30, b_end=0,
                       b_out=10 ** 30, c_end=1)
        clock = least_clock(plan, Bag.of("1 a"))
        self.assertEqual([clock[kind].numbers for kind in "abc"], [(3 * 10 ** 30 + 2,), (10 ** 30 + 1,), (1,)])
        self.assertEqual(least_clock(plan, Bag.of("1 a"), costs=False), clock_of(a="2", b="1", c="1"))

    def test_kinds_without_outcomes_and_rounds_that_hand_a_job_on(self):
        plan = plan_with(a_go="3 b", a_on="1 c", c_back="1 a", c_same="1 c", c_out="1 d")
        self.assertEqual(least_clock(plan, Bag.of("2 c")), clock_of(a="3", b="1", c="3", d="1"))

    def test_any_numbers_carry_to_the_next_place(self):
        plan = plan_with(a_x=("3 b", "c"), b_x=("2 d", "d"), c_x="5 d", d_end="-", e_x=("4 a", "b"))
        self.assertEqual(least_clock(plan, Bag.of("1 e")), clock_of(a="4.0", b="1.0", c="5", d="1", e="1.0.0"))

    def test_great_numbers(self):
        kinds = "abcdefgh"
        rows = [(kind, "go", Outcome(Bag(((after, 10 ** 30),)))) for kind, after in zip(kinds, kinds[1:])]
        plan = Plan(rows)
        self.assertEqual(least_clock(plan, Bag.of("1 a"))["a"].numbers, (10 ** 210,))
        self.assertEqual(crowd(plan, Bag.of("7 a")), 7 * 10 ** 210)
        found = crowd_ends(plan, Bag.of("7 a"))
        self.assertEqual([many for _, many in found], [7 * 10 ** (30 * at) for at in range(7)])
        deep = Plan([(kind, "go", Outcome(Bag(), (after,))) for kind, after in zip(kinds, kinds[1:])])
        self.assertEqual(least_clock(deep, Bag.of("1 a"))["a"], hand(7))
        self.assertEqual(hands_needed(deep, Bag.of("1 a")), 8)


class TestWays(Case):

    def most_anys(self, plan, start):
        """The greatest number of ANYs on a way, for plans without heavy outcomes."""
        most = {kind: 0 for kind in plan.kinds}
        for _ in range(len(plan.kinds) ** 2 + 1):
            for kind, _, outcome in plan.rows:
                for made in made_by(outcome):
                    most[kind] = max(most[kind], most[made] + (made in outcome.more))
        return max([most[kind] for kind in start.kinds], default=0)

    def test_by_chance(self):
        rng, said = random.Random(47), Counter()
        for _ in range(500):
            plan = layered_plan(rng, 6, 0.3)
            start = random_start(rng, plan)
            needed = hands_needed(plan, start)
            self.assertEqual(needed, 1 + self.most_anys(plan, start) if start.jobs else 0)
            way = any_way(plan, start)
            self.assertEqual(way, any_way(start=start, plan=plan))
            said[needed] += 1
            if needed <= 1:
                self.assertEqual(way, ())
                continue
            self.assertIn(way[0][0], start)
            self.assertEqual([step[2] for step in way[:-1]], [step[0] for step in way[1:]])
            for kind, name, after in way:
                self.assertIn(after, made_by(plan[kind, name]))
            anys = [after in plan[kind, name].more for kind, name, after in way]
            self.assertEqual(sum(anys), needed - 1)
            for step in way:
                self.assertIsInstance(step, tuple)
        self.assertGreater(min(said[many] for many in range(5)), 10, said)

    def test_a_kind_in_fixed_and_in_any_number(self):
        plan = plan_with(a_x=("1 b", "b"), b_end="-")
        self.assertEqual(any_way(plan, Bag.of("1 a")), (("a", "x", "b"),))
        self.assertEqual(hands_needed(plan, Bag.of("1 b")), 1)

    def test_ways_through_rounds(self):
        plan = plan_with(a_on="1 b", b_back="1 a", b_to="1 c", c_on="1 d", d_back="1 c", d_x=("-", "e"), e_on="1 f",
                         f_x=("2 g", "g"), g_end="-")
        self.assertEqual(any_way(plan, Bag.of("1 a 1 g")), (
            ("a", "on", "b"), ("b", "to", "c"), ("c", "on", "d"), ("d", "x", "e"), ("e", "on", "f"), ("f", "x", "g")))


class TestCrowds(Case):

    MOST = 9

    def cases(self, seed, many):
        rng = random.Random(seed)
        for _ in range(many):
            plan = rng.choice((costly_plan, layered_plan))(rng, 4)
            yield plan, random_start(rng, plan, 2)

    def test_crowd_by_all_small_runs(self):
        said = Counter()
        for plan, start in self.cases(48, 500):
            found = crowd(plan, start)
            most = self.MOST if found is None else found + 1
            if most <= self.MOST + 2:
                self.assertEqual(greatest_crowd(plan, start, most), most if found is None else found)
                said[found] += 1
            self.assertEqual(crowd(start=start, plan=plan), found)
            self.check_ends(plan, start, found)
        self.assertGreater(said[None], 100)
        self.assertGreater(len(said), 6)

    def check_ends(self, plan, start, found):
        ends = crowd_ends(plan, start)
        self.assertEqual(crowd_ends(start=start, plan=plan), ends)
        if found is None:
            self.assertIsNone(ends)
            return
        pairs = [(notice.kind, notice.outcome) for notice, _ in ends]
        self.assertEqual(pairs, sorted(set(pairs)))
        self.assertTrue(all(many >= 1 and plan.fits(notice) for notice, many in ends))
        notices = [notice for notice, many in ends for _ in range(many)]
        self.assertIs(is_run(start, notices), True)
        self.assertEqual(left(start, notices).jobs, found)

    def test_crowd_is_the_least_clock_without_costs(self):
        """(e), for plans without ANY numbers."""
        rng = random.Random(49)
        for _ in range(300):
            plan = layered_plan(rng, 5, 0)
            start = random_start(rng, plan)
            hands = least_clock(plan, start, costs=False).hands(start)
            self.assertEqual((crowd(plan, start),), hands.numbers or (0,))

    def test_crowd_without_a_greatest_one(self):
        one = Bag.of("1 a")
        for rows in ({"a_x": "2 a"}, {"a_x": "1 a 1 b"}, {"a_x": ("-", "b")}, {"a_x": ("1 b", "b")},
                     {"a_x": "1 b", "b_y": "1 a 1 c"}, {"a_x": "1 b", "b_y": ("-", "c")}, {"a_x": ("-", "a")}):
            plan = plan_with(**rows)
            self.assertEqual((crowd(plan, one), crowd_ends(plan, one)), (None, None))
            self.assertEqual((crowd(plan, Bag()), crowd_ends(plan, Bag())), (0, ()))

    def test_crowd_of_what_is_reached_alone(self):
        plan = plan_with(a_end="-", b_two="2 b", c_x=("-", "a"))
        self.assertEqual((crowd(plan, Bag.of("4 a")), crowd_ends(plan, Bag.of("4 a"))), (4, ()))
        self.assertEqual(crowd(plan, Bag.of("4 a 1 c")), None)

    def test_crowd_through_rounds(self):
        plan = plan_with(a_on="1 b", b_on="1 c", c_back="1 a", c_out="3 d", d_two="2 e", a_out="4 e")
        ends = crowd_ends(plan, Bag.of("2 a 1 b"))
        self.assertEqual(crowd(plan, Bag.of("2 a 1 b")), 18)
        self.assertEqual([(notice.kind, notice.outcome, many) for notice, many in ends],
                         [("a", "on", 2), ("b", "on", 3), ("c", "out", 3), ("d", "two", 9)])

    def test_longest_by_all_small_runs(self):
        said = Counter()
        for plan, start in self.cases(50, 500):
            found = longest(plan, start)
            most = 7 if found is None else found + 1
            if most <= 10:
                self.assertEqual(greatest_length(plan, start, most, 25), most if found is None else found)
                said[found] += 1
            self.assertEqual(longest(start=start, plan=plan), found)
        self.assertGreater(said[None], 100)
        self.assertGreater(len(said), 6)

    def test_longest(self):
        for rows, text, expected in (
                ({"a_x": "2 b"}, "3 a", 3), ({"a_x": "2 b", "b_y": "-"}, "3 a", 9), ({"a_x": "1 a"}, "1 a", None),
                ({"a_x": ("-", "b")}, "5 a", 5), ({"a_x": ("-", "b"), "b_y": "-"}, "1 a", None),
                ({"a_x": ("3 c", "b"), "c_y": "-"}, "2 a", 8), ({"a_x": "1 b", "b_y": "1 a"}, "1 b", None),
                ({"a_x": "1 a"}, "-", 0), ({"a_x": "1 b"}, "9 b", 0), ({"a_x": "1 b", "b_y": "1 b"}, "1 a", None),
                ({"a_x": ("-", "a")}, "1 a", None), ({"a_x": "1 b", "b_y": ("-", "c"), "c_z": "-"}, "1 a", None)):
            self.assertEqual(longest(plan_with(**rows), Bag.of(text)), expected, (rows, text))

    def test_dearest_by_all_small_runs(self):
        said = Counter()
        for plan, start in self.cases(51, 500):
            found = dearest(plan, start)
            most = 4 if found is None else found + 1
            if most <= 7:
                self.assertEqual(greatest_cost(plan, start, most, 10 if found is None else 6), most if found is None else found)
                said[found] += 1
            self.assertEqual(dearest(start=start, plan=plan), found)
        self.assertGreater(said[None], 50)
        self.assertGreater(len(said), 4)

    def test_dearest(self):
        for rows, costs, text, expected in (
                ({"a_x": "2 b", "b_y": "-"}, {"a_x": 5, "b_y": 2}, "3 a", 27), ({"a_x": "1 a"}, {}, "1 a", 0),
                ({"a_x": "1 a"}, {"a_x": 1}, "1 a", None), ({"a_x": "2 a"}, {}, "1 a", 0),
                ({"a_x": "2 a", "a_y": "-"}, {"a_y": 1}, "1 a", None),
                ({"a_x": "1 a", "a_y": "-"}, {"a_y": 7}, "2 a", 14),
                ({"a_x": "1 a 1 b", "b_y": "-"}, {}, "1 a", 0),
                ({"a_x": "1 a 1 b", "b_y": "-"}, {"b_y": 1}, "1 a", None),
                ({"a_x": "1 a 1 b", "b_y": "-", "a_z": "-"}, {"a_z": 3}, "1 a", 3),
                ({"a_x": ("-", "b"), "b_y": "-"}, {"a_x": 2}, "1 a", 2),
                ({"a_x": ("-", "b"), "b_y": "-"}, {"b_y": 2}, "1 a", None),
                ({"a_x": ("1 a", "b"), "b_y": "-"}, {}, "1 a", 0),
                ({"a_x": ("1 a", "b"), "b_y": "1 c", "c_z": "-"}, {"c_z": 1}, "1 a", None),
                ({"a_x": ("-", "a"), "a_y": "-"}, {"a_y": 1}, "1 a", None),
                ({"a_x": "1 b", "b_y": "1 a", "b_z": "2 c", "c_w": "-"}, {"c_w": 4}, "1 a", 8),
                ({"a_x": "1 b", "b_y": "1 a"}, {"b_y": 1}, "1 a", None),
                ({"a_x": "1 b", "b_y": "1 b"}, {"b_y": 1}, "1 a", None),
                ({"a_x": "1 b"}, {"a_x": 10 ** 30}, f"{10 ** 30} a", 10 ** 60), ({"a_x": "1 a"}, {"a_x": 1}, "-", 0)):
            self.assertEqual(dearest(costing(plan_with(**rows), **costs), Bag.of(text)), expected, (rows, costs))


class TestRefusedArguments(Case):

    def test_kinds_of_the_start_come_first(self):
        plan = plan_with(a_two="2 a", b_end="-")
        for text, kind in (("1 a 1 aa 1 c", "aa"), ("1 z", "z"), ("1 a 1 b 1 z", "z")):
            start = Bag.of(text)
            for call in (heavy, heavy_round, least_clock, hands_needed, any_way, crowd, crowd_ends, longest, dearest):
                self.refused(NoKind, (kind,), call, plan, start)
            for clock in (Clock(()), clock_of(a="0")):
                self.refused(NoKind, (kind,), is_good, plan, clock, start)
                self.refused(NoKind, (kind,), breach, plan, clock, start)
            self.refused(NoKind, (kind,), least_clock, plan, start, costs=False)

    def test_numbers_of_0_are_no_kinds_of_the_start(self):
        plan = plan_with(a_end="-")
        self.assertEqual(least_clock(plan, Bag((("a", 1), ("z", 0)))), clock_of(a="1"))


if __name__ == "__main__":
    unittest.main()
