"""toldlate/ahead.py: point [9] of DOC.md, and the guarantee (c) of [1]."""

import itertools
import random
import unittest
from collections import Counter

from cases import NO_NAMES, Case, plan_with
from examples import run_examples
from oracles import growing_by, notices_by, pairs_of, random_plans
from searches import end_of, random_start, reached_by, steps_from
from toldlate import ahead as module
from toldlate.ahead import avoiding, cheapest_ahead, enough, least_ahead, needed_round
from toldlate.bags import Bag
from toldlate.books import is_twin, twin
from toldlate.errors import NoKind, NoOutcome, NotEnough
from toldlate.plans import Outcome, Plan
from toldlate.rounds import is_growing, unending

# The first two lines are those of section 5: up and knot are those of [6].
EXAMPLES = r"""
    >>> up = Plan((("check", "good", Outcome()), ("check", "torn", Outcome(Bag.of("1 upload"))), ("chunk", "last", Outcome(Bag.of("1 check"))), ("chunk", "lost", Outcome(Bag.of("1 chunk"))), ("chunk", "stored", Outcome()), ("upload", "large", Outcome(Bag.of("64 chunk"))), ("upload", "mid", Outcome(Bag.of("8 chunk"))), ("upload", "small", Outcome(Bag.of("1 chunk")))))
    >>> knot = Plan((("a", "end", Outcome()), ("a", "go", Outcome(Bag.of("1 g"))), ("g", "back", Outcome(Bag.of("1 a"))), ("g", "split", Outcome(Bag.of("2 g"))), ("x", "more", Outcome(Bag.of("1 a"), ("note",))), ("note", "read", Outcome())))
    >>> start, torn, last = Bag.of("3 upload"), ("check", "torn"), ("chunk", "last")
    >>> large, mid, lost = ("upload", "large"), ("upload", "mid"), ("chunk", "lost")
    >>> enough(up, start, (torn,)), enough(up, start, (large,)), enough(up, start, (lost,)), enough(up, Bag(), ()), enough(up, Bag.of("1 check"), ())
    (True, False, False, True, False)
    >>> found = avoiding(up, start, (large,))
    >>> is_growing(up, found), mid in found, large in found, avoiding(up, start, (large, mid))
    (True, True, False, None)
    >>> least_ahead(up, start, (torn, last, lost, large, mid))
    ((('check', 'torn'),), (('chunk', 'last'),), (('upload', 'large'), ('upload', 'mid')))
    >>> cheapest_ahead(up, start, (torn + (5,), last + (640,), large + (2,), mid + (2,)))
    ((('upload', 'large'), ('upload', 'mid')), 4)
    >>> cheapest_ahead(up, start, (torn + (4,), last + (640,), large + (2,), mid + (2,)))
    ((('check', 'torn'),), 4)
    >>> found = needed_round(up, start, (large, mid), mid)
    >>> is_growing(up, found), mid in found, large in found, needed_round(up, start, (torn, large), large)
    (True, True, False, None)
    >>> least_ahead(knot, Bag.of("1 x"), (("a", "end"), ("a", "go"), ("g", "back"), ("g", "split"))), least_ahead(knot, Bag.of("1 note"), (("a", "end"),))
    (((('g', 'split'),),), ((),))
    >>> least_ahead(up, start, (lost, large))
    raises NotEnough()
    >>> needed_round(up, start, (torn,), last)
    raises NoOutcome(kind='chunk', outcome='last')
"""

NAMES = ("enough", "avoiding", "least_ahead", "cheapest_ahead", "needed_round")


def enough_by(plan, start, ahead):
    """Whether a SET is enough, by the words of [9]."""
    return not reached_by(plan, start) & growing_by(plan, ahead)


def least_by(plan, start, candidates):
    """All least SETs, by trying all SETs."""
    good = [chosen for many in range(len(candidates) + 1)
            for chosen in itertools.combinations(candidates, many) if enough_by(plan, start, chosen)]
    return tuple(sorted(chosen for chosen in good
                        if not any(set(other) < set(chosen) for other in good)))


class TestExamples(unittest.TestCase):

    def test_examples_of_section_8(self):
        names = {name: getattr(module, name) for name in NAMES}
        run_examples(self, EXAMPLES, {**names, "Bag": Bag, "Outcome": Outcome, "Plan": Plan,
                                      "is_growing": is_growing})


class AheadCase(Case):

    def cases(self, seed, many, most_kinds=4, most_outcomes=7):
        """Plans by chance with a start and a SET of some of the outcomes."""
        rng = random.Random(seed)
        for plan in random_plans(seed, many, most_kinds, most_outcomes):
            chance = rng.choice((0, 0.2, 0.5, 0.8, 1))
            yield rng, plan, random_start(rng, plan), tuple(
                pair for pair in pairs_of(plan) if rng.random() < chance)

    def check_round(self, plan, start, found):
        self.assertIs(is_growing(plan, found), True)
        self.assertLessEqual({kind for kind, _ in found}, reached_by(plan, start))


class TestEnough(AheadCase):

    def test_by_chance(self):
        said = Counter()
        for _, plan, start, ahead in self.cases(31, 600):
            expected = enough_by(plan, start, ahead)
            said[expected] += 1
            for given in (ahead, [list(pair) for pair in ahead]):
                self.assertIs(enough(plan, start, given), expected)
                found = avoiding(plan, start, given)
                self.assertIs(found is None, expected)
                self.assertEqual(found, avoiding(ahead=ahead, start=start, plan=plan))
            if not expected:
                self.check_round(plan, start, found)
                self.assertFalse(set(found) & set(ahead))
        self.assertGreater(min(said.values()), 100)

    def test_an_empty_start(self):
        plan = plan_with(a_two="2 a")
        self.assertIs(enough(plan, Bag(), ()), True)
        self.assertIs(avoiding(plan, Bag((("a", 0),)), ()), None)

    def test_a_round_may_be_met_at_an_outcome_that_is_no_side(self):
        plan = plan_with(a_go="1 b", b_two="2 a", b_end="-")
        for pair in (("a", "go"), ("b", "two")):
            self.assertIs(enough(plan, Bag.of("1 b"), (pair,)), True)
        self.assertIs(enough(plan, Bag.of("1 b"), (("b", "end"),)), False)

    def test_rounds_that_only_hand_a_job_on_need_not_be_met(self):
        plan = plan_with(a_go="1 b", b_back="1 a", b_end="2 c", c_end="-")
        self.assertIs(enough(plan, Bag.of("1 a"), ()), True)
        self.assertEqual(least_ahead(plan, Bag.of("1 a"), pairs_of(plan)), ((),))

    def test_kinds_that_are_not_reached(self):
        plan = plan_with(a_end="-", g_two="2 g", g_out="1 a")
        self.assertIs(enough(plan, Bag.of("5 a"), ()), True)
        self.assertIs(enough(plan, Bag.of("5 a 1 g"), ()), False)

    def test_what_is_reached_is_meant_of_the_whole_plan(self):
        # Told ahead, the way to g is still a way.
        plan = plan_with(a_go="1 g", g_two="2 g")
        self.assertIs(enough(plan, Bag.of("1 a"), (("a", "go"),)), False)
        self.assertEqual(avoiding(plan, Bag.of("1 a"), (("a", "go"),)), (("g", "two"),))

    def test_a_set_that_contains_an_enough_one(self):
        plan = plan_with(a_two="2 a", a_on="1 a", a_end="-")
        for ahead in ((("a", "two"),), (("a", "end"), ("a", "two")), pairs_of(plan)):
            self.assertIs(enough(plan, Bag.of("1 a"), ahead), True)

    def test_any_numbers_grow(self):
        plan = plan_with(a_more=("-", "a"), a_out=("-", "b"), b_end="-")
        self.assertEqual(avoiding(plan, Bag.of("1 a"), (("a", "out"),)), (("a", "more"),))
        self.assertIs(enough(plan, Bag.of("1 a"), (("a", "more"),)), True)


class TestLeast(AheadCase):

    def test_by_chance(self):
        sizes = Counter()
        for rng, plan, start, ahead in self.cases(32, 250, 4, 8):
            candidates = tuple(sorted(rng.sample(pairs_of(plan), min(len(plan), 6))))
            expected = least_by(plan, start, candidates)
            for given in (candidates, [list(pair) for pair in candidates]):
                if expected:
                    self.assertEqual(least_ahead(plan, start, given), expected)
                else:
                    self.refused(NotEnough, (), least_ahead, plan, start, given)
            sizes[len(expected)] += 1
        self.assertGreater(len(sizes), 3, sizes)

    def test_cheapest_by_chance(self):
        ties = 0
        for rng, plan, start, ahead in self.cases(33, 500, 4, 8):
            candidates = tuple(sorted(rng.sample(pairs_of(plan), min(len(plan), 6))))
            prices = tuple(pair + (rng.choice((0, 0, 1, 2, 10 ** 30)),) for pair in candidates)
            found = least_by(plan, start, candidates)
            if not found:
                self.refused(NotEnough, (), cheapest_ahead, plan, start, prices)
                continue
            price_of = {(kind, name): price for kind, name, price in prices}
            ranked = sorted((sum(price_of[pair] for pair in chosen), chosen) for chosen in found)
            ties += len(ranked) > 1 and ranked[0][0] == ranked[1][0]
            expected = (ranked[0][1], ranked[0][0])
            self.assertEqual(cheapest_ahead(plan, start, prices), expected)
            self.assertEqual(cheapest_ahead(prices=[list(row) for row in prices], start=start, plan=plan), expected)
        self.assertGreater(ties, 10)

    def test_sets_ascend(self):
        plan = plan_with(a_go="1 b", ab_on="1 a", b_on="1 ab", b_two="1 ab 1 c", c_end="-")
        start = Bag.of("1 a")
        self.assertEqual(least_ahead(plan, start, pairs_of(plan)),
                         ((("a", "go"),), (("ab", "on"),), (("b", "two"),)))
        plan = plan_with(a_on="1 b", a_x="1 b", b_on="1 a 1 b", c_two="2 c")
        self.assertEqual(least_ahead(plan, Bag.of("1 a 1 c"), (("b", "on"), ("c", "two"))),
                         ((("b", "on"), ("c", "two")),))
        plan = plan_with(a_b="1 d", a_ba="1 d", d_aa="2 a", d_z="1 e")
        self.assertEqual(least_ahead(plan, Bag.of("1 d"), (("a", "b"), ("a", "ba"), ("d", "aa"))),
                         ((("a", "b"), ("a", "ba")), (("d", "aa"),)))

    def test_a_member_too_many_is_in_no_least_set_even_at_the_price_0(self):
        plan = plan_with(a_two="2 a", a_end="-")
        prices = (("a", "end", 0), ("a", "two", 7))
        self.assertEqual(cheapest_ahead(plan, Bag.of("1 a"), prices), ((("a", "two"),), 7))

    def test_prices_that_are_alike(self):
        plan = plan_with(a_go="1 b", b_two="2 a", b_end="-")
        for price in (0, 3, 10 ** 30):
            prices = (("a", "go", price), ("b", "end", 0), ("b", "two", price))
            self.assertEqual(cheapest_ahead(plan, Bag.of("1 a"), prices), ((("a", "go"),), price))

    def test_nothing_grows(self):
        plan = plan_with(a_go="1 b", b_end="-", g_two="2 g")
        self.assertEqual(least_ahead(plan, Bag.of("1 a"), pairs_of(plan)), ((),))
        self.assertEqual(least_ahead(plan, Bag.of("1 a"), ()), ((),))
        self.assertEqual(cheapest_ahead(plan, Bag.of("1 a"), (("g", "two", 1),)), ((), 0))
        self.assertEqual(cheapest_ahead(plan, Bag(), ()), ((), 0))

    def test_candidates_that_are_not_enough(self):
        plan = plan_with(a_two="2 a", a_on="1 a")
        for candidates in ((), (("a", "on"),)):
            self.refused(NotEnough, (), least_ahead, plan, Bag.of("1 a"), candidates)
            prices = tuple(pair + (1,) for pair in candidates)
            self.refused(NotEnough, (), cheapest_ahead, plan, Bag.of("1 a"), prices)

    def test_more_candidates_than_stated(self):
        kinds = "abcdefgh"
        plan = plan_with(**{kind + "_two": "2 " + after for kind, after in zip(kinds, kinds[1:] + "a")})
        self.assertEqual(least_ahead(plan, Bag.of("1 a"), pairs_of(plan)), tuple((pair,) for pair in pairs_of(plan)))
        plan = plan_with(**{kind + "_two": "2 " + kind for kind in kinds})
        start = Bag([(kind, 1) for kind in kinds])
        self.assertEqual(least_ahead(plan, start, pairs_of(plan)), (pairs_of(plan),))


class TestNeededRound(AheadCase):

    def test_by_chance(self):
        said = Counter()
        for rng, plan, start, ahead in self.cases(34, 700):
            if not ahead:
                continue
            member = rng.choice(ahead)
            rest = tuple(pair for pair in ahead if pair != member)
            if not enough_by(plan, start, ahead):
                self.refused(NotEnough, (), needed_round, plan, start, ahead, member)
                said["not enough"] += 1
                continue
            found = needed_round(plan, start, ahead, member)
            again = needed_round(member=list(member), ahead=[list(pair) for pair in ahead], start=start, plan=plan)
            self.assertEqual(again, found)
            if enough_by(plan, start, rest):
                self.assertIsNone(found)
                said["not needed"] += 1
            else:
                self.check_round(plan, start, found)
                self.assertEqual(set(found) & set(ahead), {member})
                said["needed"] += 1
        self.assertGreater(min(said[word] for word in ("not enough", "not needed", "needed")), 50, said)

    def test_each_member_of_a_least_set_is_needed(self):
        for _, plan, start, _ in self.cases(35, 100, 4, 6):
            for chosen in least_ahead(plan, start, pairs_of(plan)):
                for member in chosen:
                    self.assertIsNotNone(needed_round(plan, start, chosen, member))


class TestGuarantee(AheadCase):
    """(c): a SET is enough exactly if closed books always show that nothing lives."""

    def test_enough_sets_by_all_small_runs(self):
        tried = 0
        for _, plan, start, ahead in self.cases(36, 500, 3, 5):
            if start.jobs and enough_by(plan, start, ahead) and growing_by(plan):
                tried += 1
                self.assertFalse(self.is_fooled(plan, start, ahead), (plan.rows, start.text, ahead))
        self.assertGreater(tried, 30)
        plan = plan_with(a_end="-", a_go="1 b", b_two="2 a")
        self.assertIs(self.is_fooled(plan, Bag.of("1 a"), ()), True)
        self.assertIs(self.is_fooled(plan, Bag.of("1 a"), (("a", "go"),)), False)

    def test_sets_that_are_not_enough_by_a_twin(self):
        tried = 0
        for _, plan, start, ahead in self.cases(37, 1000, 3, 6):
            kinds = reached_by(plan, start)
            if set(unending(plan)) & kinds or enough_by(plan, start, ahead):
                continue
            held = self.finished_run(plan, start, kinds & growing_by(plan, ahead))
            found = twin(plan, start, held, ahead=ahead)
            self.assertIs(is_twin(plan, start, held, found, ahead=ahead), True)
            tried += 1
        self.assertGreater(tried, 50)

    def is_fooled(self, plan, start, ahead):
        """Whether in a small run the books are closed though a job lives or waits."""
        steps = notices_by(plan, pairs_of(plan), 2)
        first = (start.pairs, (), start.pairs)
        seen, waiting = {first}, [first]
        while waiting and len(seen) < 1500:
            free, stopped, books = waiting.pop(0)
            for notice in steps:
                if notice.kind not in Bag(free):
                    continue
                told = (notice.kind, notice.outcome) in ahead
                after = Bag(free) - Bag(((notice.kind, 1),))
                held = Counter(dict(books))
                held[notice.kind] -= 1
                held.update(dict(notice.made.pairs))
                numbers = tuple(sorted((kind, number) for kind, number in held.items() if number))
                for state in (((after + notice.made).pairs, stopped, numbers),
                              (after.pairs, (Bag(stopped) + notice.made).pairs, books) if told else
                              ((after + notice.made).pairs, stopped, books)):
                    if not state[2] and (state[0] or state[1]):
                        return True
                    if Bag(state[0] + state[1]).jobs <= 4 and state not in seen:
                        seen.add(state)
                        waiting.append(state)
        return False

    def finished_run(self, plan, start, growing):
        """The notices of a run that meets one of these kinds and behind which nothing lives."""
        steps = steps_from(plan, (0, 1))
        first = (start, bool(set(start.kinds) & growing))
        seen, waiting = {(start.pairs, first[1])}, [(first, ())]
        while True:
            (alive, met), notices = waiting.pop(0)
            if met and not alive.jobs:
                return notices
            for notice in [notice for kind in alive.kinds for notice in steps[kind]]:
                bag = end_of(alive, notice)
                state = (bag, met or bool(set(notice.made.kinds) & growing))
                if (bag.pairs, state[1]) not in seen and bag.jobs < 12:
                    seen.add((bag.pairs, state[1]))
                    waiting.append((state, notices + (notice,)))


class TestRefusedArguments(Case):

    PLAN = plan_with(a_end="-", a_go="1 b", b_two="2 b")

    def calls(self, start, pairs):
        priced = [list(pair) + [1] for pair in pairs]
        member = ("z", "z")
        return ((enough, (self.PLAN, start, pairs)), (avoiding, (self.PLAN, start, pairs)),
                (least_ahead, (self.PLAN, start, pairs)), (cheapest_ahead, (self.PLAN, start, priced)),
                (needed_round, (self.PLAN, start, pairs, member)))

    def test_kinds_of_the_start_come_first(self):
        for pairs in ((), (("a", "no"),)):
            for call, arguments in self.calls(Bag.of("1 aa 1 b 3 c"), pairs):
                self.refused(NoKind, ("aa",), call, *arguments)
            for call, arguments in self.calls(Bag.of("1 z"), pairs):
                self.refused(NoKind, ("z",), call, *arguments)

    def test_pairs_that_are_not_in_the_plan(self):
        for value in NO_NAMES + ("z",):
            for pair in ((value, "go"), ("a", value), ("b", value)):
                for pairs in ((pair,), [["a", "go"], list(pair), ["z", "z"]]):
                    # From an "a" a kind that grows is reached; an empty start reaches nothing.
                    for start in (Bag.of("1 a"), Bag()):
                        for call, arguments in self.calls(start, pairs):
                            self.refused(NoOutcome, pair, call, *arguments)

    def test_a_member_that_is_not_in_ahead(self):
        two = ("b", "two")
        for value in NO_NAMES + ("z",):
            for member in ((value, "two"), ("b", value), ("a", "go"), ["a", "end"]):
                for ahead in ((two,), [["b", "two"]], (), (("a", "end"),) if member[1] != "end" else ()):
                    self.refused(NoOutcome, tuple(member), needed_round, self.PLAN, Bag.of("1 b"), ahead, member)

    def test_a_member_of_a_set_that_is_not_enough(self):
        self.refused(NotEnough, (), needed_round, self.PLAN, Bag.of("1 a"), (("a", "go"),), ("a", "go"))

    def test_arguments_are_not_changed(self):
        pairs, prices = [["a", "go"], ["b", "two"]], [["a", "go", 1], ["b", "two", 2]]
        for call in (enough, avoiding, least_ahead):
            call(self.PLAN, Bag.of("1 a"), pairs)
        cheapest_ahead(self.PLAN, Bag.of("1 a"), prices)
        needed_round(self.PLAN, Bag.of("1 a"), pairs, pairs[1])
        self.assertEqual((pairs, prices), ([["a", "go"], ["b", "two"]], [["a", "go", 1], ["b", "two", 2]]))


if __name__ == "__main__":
    unittest.main()
