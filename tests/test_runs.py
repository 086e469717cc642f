"""toldlate/runs.py: point [7] of DOC.md."""

import itertools
import random
import unittest
from collections import Counter

from cases import AlwaysEqual, Case, plan_with
from examples import run_examples
from oracles import after, can_be_ordered, key, random_bag
from toldlate import runs
from toldlate.bags import Bag
from toldlate.errors import NotAlive, Short
from toldlate.plans import Notice, Plan, Outcome
from toldlate.runs import Run, entered, is_part, is_run, late, left, order_of, why_no_run

EXAMPLES = """
    >>> work = Plan((("a", "end", Outcome()), ("b", "back", Outcome(Bag.of("1 k"))), ("k", "by", Outcome(Bag.of("1 b"))), ("k", "two", Outcome(Bag.of("2 a")))))
    >>> end, back, by, two = work.notice("a", "end"), work.notice("b", "back"), work.notice("k", "by"), work.notice("k", "two")
    >>> start, spin = Bag.of("1 k"), Notice("x", "spin", Bag.of("1 x"))
    >>> is_run(start, (two, by, back)), is_run(start, (end, back, two, by)), is_run(start, (by, two)), is_run(start, ())
    (True, True, False, True)
    >>> run = order_of(start, (two, by, back))
    >>> [notice.outcome for notice in run.notices], run.alive.text, run.peak, len(run + end), run.first(2).alive.text
    (['by', 'back', 'two'], '2 a', 2, 4, '1 k')
    >>> why_no_run(start, (by, two)), why_no_run(start, (two, spin)), why_no_run(start, (end, spin)), entered(start, (by, spin))
    (('short', 'k', 1), ('cut off', ('x',)), ('short', 'a', 1), ('b', 'k'))
    >>> is_part(run, (two, by)), is_part(run, (by, by)), [notice.outcome for notice in late(run, (back,))], late(run, (end,))
    (True, False, ['by', 'two'], None)
    >>> Run(start, (by, two))
    raises NotAlive(place=1)
    >>> left(start, (end, end, two, two))
    raises Short(kind='k', lacking=1)
"""

NAMES = ("Run", "left", "entered", "is_run", "order_of", "why_no_run", "is_part", "late")


def told(words):
    """Notices from words like "a>bb a>": the kind that ends, and what it makes."""
    found = []
    for word in words.split():
        kind, made = word.split(">")
        found.append(Notice(kind, "o", Bag([(own, 1) for own in made])))
    return tuple(found)


def jobs(letters):
    return Bag([(kind, 1) for kind in letters])


def random_notices(rng, kinds, most):
    return [Notice(rng.choice(kinds), rng.choice("op"), random_bag(rng, kinds))
            for _ in range(rng.randint(0, most))]


def random_run(rng, kinds, most):
    """A start and notices in the order of a run."""
    start = alive = jobs([rng.choice(kinds) for _ in range(rng.choice((0, 1, 1, 2)))])
    rules = [(kind, random_bag(rng, kinds)) for kind in kinds for _ in range(2)]
    notices = []
    for _ in range(most):
        fitting = [rule for rule in rules if rule[0] in alive]
        if not fitting:
            break
        kind, made = rng.choice(fitting)
        notices.append(Notice(kind, "o", made))
        alive = after(alive, notices[-1])
    return start, notices


class TestExamples(unittest.TestCase):

    def test_examples_of_section_6(self):
        names = {name: getattr(runs, name) for name in NAMES}
        run_examples(self, EXAMPLES, {**names, "Bag": Bag, "Notice": Notice, "Outcome": Outcome, "Plan": Plan})

    def test_all_is_defined_in_its_file(self):
        for name in NAMES:
            self.assertEqual(getattr(runs, name).__module__, "toldlate.runs")
        for name in ("start", "notices", "alive", "peak", "first", "__len__", "__add__", "__eq__"):
            self.assertIn(name, vars(Run))


class TestRun(Case):

    def test_no_ends(self):
        for run in (Run(jobs("aab")), Run(jobs("aab"), ()), Run(start=jobs("aab"), notices=[])):
            self.assertEqual((run.start, run.notices, run.alive, run.peak, len(run)),
                             (jobs("aab"), (), jobs("aab"), 3, 0))
        empty = Run(Bag())
        self.assertEqual((empty.alive, empty.peak, len(empty)), (Bag(), 0, 0))

    def test_ends_in_their_order(self):
        run = Run(jobs("a"), told("a>bbb b>c b> c> b>"))
        self.assertEqual((run.alive, run.peak, len(run)), (Bag(), 3, 5))
        self.assertEqual([run.first(many).alive.text for many in range(7)],
                         ["1 a", "3 b", "2 b 1 c", "1 b 1 c", "1 b", "-", "-"])

    def test_by_chance(self):
        rng = random.Random(11)
        for _ in range(200):
            start, notices = random_run(rng, "abc", 12)
            lived = [start]
            for notice in notices:
                lived.append(after(lived[-1], notice))
            run = Run(start, notices)
            self.assertEqual((run.start, run.notices, run.alive), (start, tuple(notices), lived[-1]))
            self.assertEqual((run.peak, len(run)), (max(bag.jobs for bag in lived), len(notices)))
            for many in range(len(notices) + 3):
                self.assertEqual(run.first(many), Run(start, notices[:many]))

    def test_the_peak_can_be_at_the_start_between_or_at_the_end(self):
        self.assertEqual([Run(jobs("aa"), told(words)).peak for words in
                          ("", "a> a>", "a>bb b> b> a>", "a>bbb a>bbb", "a> a>bb", "a> a>bbb")],
                         [2, 2, 3, 6, 2, 3])

    def test_great_numbers(self):
        great = Bag((("b", 10 ** 30),))
        run = Run(jobs("aa"), [Notice("a", "o", great), Notice("a", "o", great), Notice("b", "o", Bag())])
        self.assertEqual((run.alive["b"], run.peak), (2 * 10 ** 30 - 1, 2 * 10 ** 30))

    def test_not_alive(self):
        for start, words, place in (("", "a>", 0), ("a", "b>", 0), ("a", "a> a>", 1), ("a", "a>b a>", 1),
                                    ("a", "a>bb b> b> b> z>", 3), ("aa", "a> b> c>", 1),
                                    ("a", "b>a a>b", 0), ("b", "b>a a> a>a", 2)):
            self.refused(NotAlive, (place,), Run, jobs(start), told(words))
            self.refused(NotAlive, (place,), Run, notices=list(told(words)), start=jobs(start))

    def test_a_job_that_is_made_can_end_but_not_earlier(self):
        self.assertEqual(Run(jobs("a"), told("a>b b>a a>")).alive, Bag())
        self.refused(NotAlive, (0,), Run, jobs("a"), told("b>a a>b"))

    def test_plus(self):
        run = Run(jobs("a"), told("a>bb"))
        longer = run + told("b>")[0]
        self.assertEqual((longer, len(run)), (Run(jobs("a"), told("a>bb b>")), 1))
        self.refused(NotAlive, (1,), lambda: run + told("a>")[0])
        self.refused(NotAlive, (0,), lambda: Run(Bag()) + told("a>")[0])
        for wrong in (lambda: run + (), lambda: run + run, lambda: run + 1, lambda: () + run):
            with self.assertRaises(TypeError):
                wrong()

    def test_plus_in_place_leaves_the_old_run(self):
        name = old = Run(jobs("a"))
        name += told("a>")[0]
        self.assertEqual((len(old), len(name)), (0, 1))

    def test_notices_that_were_passed_are_copied(self):
        notices = list(told("a>b b>"))
        run = Run(jobs("a"), notices)
        notices.pop()
        self.assertEqual((len(run), run.notices, run.notices.__class__), (2, told("a>b b>"), tuple))

    def test_it_is_not_iterated_over_and_has_no_setters(self):
        run = Run(jobs("a"), told("a>"))
        for run in (run, Run(Bag())):
            with self.assertRaises(TypeError):
                iter(run)
            with self.assertRaises(TypeError):
                list(run)
        for name in ("start", "notices", "alive", "peak"):
            with self.assertRaises(AttributeError):
                setattr(run, name, ())

    def test_equal(self):
        made = [(start, words) for start in ("aab", "ab", "aabb")
                for words in ("", "a> b>", "b> a>", "a> b>a", "a>", "a> b")
                if words != "a> b"]
        for one, two in itertools.product(made, made):
            first, second = (Run(jobs(start), told(words)) for start, words in (one, two))
            self.assertIs(first == second, one == two)
            self.assertIs(first != second, one != two)

    def test_a_run_equals_nothing_else(self):
        run = Run(jobs("a"), told("a>"))
        self.equals_nothing_else(run, (run.notices, run.start, run.alive, None, 1, AlwaysEqual()))
        self.equals_nothing_else(Run(Bag()), ((), Bag(), None, 0, False, AlwaysEqual()))


class TestLeftAndEntered(Case):

    def test_left(self):
        self.assertEqual(left(jobs("aab"), ()), jobs("aab"))
        self.assertEqual(left(Bag(), ()), Bag())
        self.assertEqual(left(notices=list(told("b>a a>bb b>")), start=jobs("a")), jobs("a"))
        self.assertEqual(left(jobs("a"), told("b> a>b")), Bag())
        self.assertEqual(left(jobs("a"), told("x>xy")), jobs("ay"))

    def test_short(self):
        self.refused(Short, ("a", 1), left, Bag(), told("a>"))
        self.refused(Short, ("b", 3), left, jobs("a"), told("c> b> b> a>a b> c> b>b"))
        self.refused(Short, ("b", 3), left, jobs("ab"), told("b> b> b> b>"))

    def test_entered(self):
        self.assertEqual(entered(Bag(), told("a>b b>a")), ())
        self.assertEqual(entered(jobs("a"), ()), ("a",))
        self.assertEqual(entered(jobs("ca"), told("x>y b>d a>b d>e y>x")), ("a", "b", "c", "d", "e"))
        self.assertEqual(entered(notices=[Notice("a", "o", Bag((("b", 0),)))], start=jobs("aa")), ("a",))
        self.assertEqual(entered(jobs("a"), told("a>aa a>")), ("a",))

    def test_entered_by_chance(self):
        rng = random.Random(12)
        for _ in range(300):
            start, notices = random_bag(rng, "abcde"), random_notices(rng, "abcde", 6)
            expected = set(start.kinds)
            for _ in "abcde":
                expected |= {made for notice in notices if notice.kind in expected for made in notice.made.kinds}
            self.assertEqual(entered(start, notices), tuple(sorted(expected)))


class TestIsRun(Case):

    def check(self, start, notices):
        expected = can_be_ordered(start, notices)
        self.assertIs(is_run(start, notices), expected)
        self.assertIs(why_no_run(start, notices) is None, expected)
        found = order_of(start, notices)
        self.assertIs(found is not None, expected)
        if expected:
            self.assertEqual(found.start, start)
            self.assertEqual(Counter(map(key, found.notices)), Counter(map(key, notices)))
            self.assertEqual(found.alive, left(start, notices))
        return expected

    def test_by_all_orders(self):
        rng = random.Random(13)
        answers = Counter()
        for _ in range(4000):
            kinds = "abcde"[:rng.randint(1, 5)]
            start = jobs([rng.choice(kinds) for _ in range(rng.choice((0, 1, 1, 2)))])
            answers[self.check(start, random_notices(rng, kinds, 6))] += 1
        self.assertGreater(min(answers[True], answers[False]), 500)

    def test_runs_in_any_order(self):
        rng = random.Random(14)
        for _ in range(400):
            start, notices = random_run(rng, "abcd", 9)
            rng.shuffle(notices)
            self.assertTrue(self.check(start, notices))

    def test_long_runs_in_any_order(self):
        rng = random.Random(15)
        for many in (60, 560):
            for _ in range(15):
                start, notices = random_run(rng, "abcdefgh", many)
                rng.shuffle(notices)
                found = order_of(start, tuple(notices))
                self.assertEqual(Counter(map(key, found.notices)), Counter(map(key, notices)))
                self.assertEqual(order_of(start, list(notices)), found)

    def test_rounds_must_be_put_in_before_the_last_job_goes_elsewhere(self):
        for words in ("k>aa k>b b>k", "k> k>b b>c c>k", "k> k>k k>k", "k> k>ky y>k k>b b>k",
                      "k>z k>b b>bb b>k b> z>zz z>", "k> k>d d>e e>d e>k d>e"):
            for order in itertools.permutations(told(words)):
                self.assertTrue(self.check(jobs("k"), order))

    def test_short(self):
        self.assertEqual(why_no_run(Bag(), told("b> a> b>")), ("short", "a", 1))
        self.assertEqual(why_no_run(notices=list(told("b> b> a>")), start=jobs("a")), ("short", "b", 2))
        self.assertEqual(why_no_run(jobs("a"), told("x>x y>y z> z>")), ("short", "z", 2))

    def test_cut_off(self):
        self.assertEqual(why_no_run(jobs("a"), told("y>x a>b x>y b>")), ("cut off", ("x", "y")))
        self.assertEqual(why_no_run(Bag(), told("b>bb b>b")), ("cut off", ("b",)))
        self.assertEqual(why_no_run(jobs("a"), told("c>a a>a")), ("short", "c", 1))
        self.assertEqual(repr(why_no_run(Bag(), list(told("b>b")))), "('cut off', ('b',))")

    def test_why_by_chance(self):
        rng = random.Random(16)
        words = Counter()
        for _ in range(2000):
            start, notices = random_bag(rng, "abc"), random_notices(rng, "abcd", 6)
            lacking = {kind: sum(notice.kind == kind for notice in notices) - start[kind]
                       - sum(notice.made[kind] for notice in notices) for kind in "abcd"}
            short = [(kind, lacking[kind]) for kind in "abcd" if lacking[kind] > 0]
            cut = {notice.kind for notice in notices} - set(entered(start, notices))
            expected = ("short",) + short[0] if short else ("cut off", tuple(sorted(cut))) if cut else None
            self.assertEqual(why_no_run(start, notices), expected)
            words[expected and expected[0]] += 1
        self.assertGreater(min(words["short"], words["cut off"], words[None]), 50)

    def test_no_notices(self):
        for start in (Bag(), jobs("a"), jobs("abb")):
            self.assertIs(is_run(start, ()), True)
            self.assertEqual(order_of(start, []), Run(start))

    def test_the_same_notice_several_times(self):
        self.assertIs(is_run(jobs("aaa"), told("a> a> a>")), True)
        self.assertIs(is_run(jobs("aa"), told("a> a> a>")), False)

    def test_a_start_without_jobs(self):
        self.assertIs(is_run(Bag(), told("a>a")), False)
        self.assertEqual(order_of(Bag(), told("a>a")), None)
        self.assertIs(is_run(start=Bag(), notices=()), True)

    def test_great_numbers(self):
        great = Notice("a", "o", Bag((("b", 10 ** 30), ("a", 1))))
        found = order_of(notices=[great] + list(told("b>a a>b")) + [great], start=jobs("a"))
        self.assertEqual(found.alive, Bag((("a", 1), ("b", 2 * 10 ** 30))))


class TestHeldAndLate(Case):

    RUN = Run(jobs("aa"), told("a>bb b> a>bb b>c b>"))

    def test_late(self):
        for held, still in (("", "a>bb b> a>bb b>c b>"), ("b>", "a>bb a>bb b>c b>"),
                            ("b> b>", "a>bb a>bb b>c"), ("b>c a>bb", "b> a>bb b>"),
                            ("b> b>c a>bb b> a>bb", "")):
            for order in itertools.permutations(told(held)):
                self.assertEqual(late(self.RUN, order), told(still))
                self.assertEqual(late(notices=list(order), run=self.RUN), told(still))
                self.assertIs(is_part(self.RUN, order), True)

    def test_no_part(self):
        for held in ("z>", "b> b> b>", "a>b", "a>", "a>bb a>bb a>bb", "b>cc", "c>"):
            self.assertIs(is_part(self.RUN, told(held)), False)
            self.assertIs(late(self.RUN, told(held)), None)
        self.assertIs(is_part(self.RUN, [Notice("b", "other", Bag())]), False)
        self.assertIs(is_part(notices=[Notice("b", "o", Bag())], run=self.RUN), True)

    def test_by_chance(self):
        rng = random.Random(17)
        for _ in range(300):
            start, notices = random_run(rng, "ab", 8)
            run = Run(start, notices)
            held = [rng.choice(notices + list(told("a> b>a"))) for _ in range(rng.randint(0, 6))]
            expected = list(notices)
            part = True
            for notice in held:
                part = part and notice in expected
                if part:
                    expected.remove(notice)
            self.assertIs(is_part(run, held), part)
            self.assertEqual(late(run, held), tuple(expected) if part else None)

    def test_arguments_are_not_changed(self):
        notices = list(told("b>c a>bb"))
        kept = list(notices)
        late(self.RUN, notices), is_part(self.RUN, notices), order_of(jobs("ab"), notices)
        left(jobs("ab"), notices), entered(jobs("ab"), notices), why_no_run(jobs("b"), notices)
        self.assertEqual(notices, kept)


class TestGuaranteeA(Case):

    def test_a_run_or_the_kind_that_is_short_or_the_kinds_that_are_cut_off(self):
        plan = plan_with(index_list=("-", "page"), page_next="1 page", page_last="-", stray_on="1 stray")
        start, last, more = Bag.of("1 index"), plan.notice("page", "last"), plan.notice("page", "next")
        pages = plan.notice("index", "list", Bag.of("2 page"))
        self.assertEqual(order_of(start, (last, more, pages, more)).alive.text, "1 page")
        self.assertEqual(why_no_run(start, (last, more, pages, last, last)), ("short", "page", 1))
        self.assertEqual(why_no_run(start, (last, plan.notice("stray", "on"), pages)), ("cut off", ("stray",)))


if __name__ == "__main__":
    unittest.main()
