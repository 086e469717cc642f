"""toldlate/texts.py: point [15] of DOC.md."""

import itertools
import random
import re
import unittest
from collections import Counter

from cases import Case
from examples import run_examples
from searches import costly_plan, random_run, random_start
from toldlate import texts as module
from toldlate.bags import Bag
from toldlate.errors import BadLine
from toldlate.plans import Notice, Outcome, Plan
from toldlate.texts import notices_of, notices_text, outcome_of, outcome_text, plan_of, plan_text

EXAMPLES = r"""
    >>> outcome_text(Outcome(Bag.of("2 note"), ("page", "image"), 3)), outcome_text(Outcome()), outcome_text(Outcome(Bag(), ("cost",)))
    ('2 note any image page cost 3', '-', '- any cost')
    >>> plan = plan_of("page got: 2 note any image\npage gone: -\nnote kept: -\nimage kept: - cost 2")
    >>> plan_text(plan)
    'image kept: - cost 2\nnote kept: -\npage gone: -\npage got: 2 note any image'
    >>> notices_text((plan.notice("page", "gone"), plan.notice("page", "got", Bag.of("1 image"))))
    'page gone: -\npage got: 1 image 2 note'
    >>> len(notices_of("note kept: -\nnote kept: -")), notices_of("-"), plan_of("-").kinds
    (2, (), ())
    >>> plan_of("page got: 2 note\npage got: 2 note")
    raises BadLine(number=1)
    >>> outcome_of("2 note any page image")
    raises BadLine(number=0)
    >>> notices_of("page got: 1 image any note")
    raises BadLine(number=0)
"""

NAMES = ("outcome_text", "plan_text", "notices_text", "outcome_of", "plan_of", "notices_of")
NUMBER, KIND = "[1-9][0-9]*", "[a-z]{1,8}"
BAG = f"(-|{NUMBER} {KIND}(?: {NUMBER} {KIND})*)"
OUTCOME = re.compile(f"{BAG}(?: any ({KIND}(?: {KIND})*))?(?: cost {NUMBER})?")
# "any" and "cost" can be the names of kinds, and kinds can come ahead of both and behind them.
WORDS = ("-", "0", "1", "20", "a", "any", "cost", "z")
GREAT = 10 ** 30


def ascends(words):
    return all(one < other for one, other in zip(words, words[1:]))


def is_outcome_text(text):
    """Whether a text is an OUTCOME TEXT, by an expression."""
    found = OUTCOME.fullmatch(text)
    if not found or not text.isascii():
        return False
    return ascends(found[1].split(" ")[1::2]) and ascends((found[2] or "").split(" "))


class TestExamples(unittest.TestCase):

    def test_examples_of_section_14(self):
        names = {name: getattr(module, name) for name in NAMES}
        run_examples(self, EXAMPLES, {**names, "Bag": Bag, "Outcome": Outcome})


class TextCase(Case):

    def bad(self, number, call, text):
        with self.subTest(text=text):
            self.refused(BadLine, (number,), call, text)


class TestOutcomes(TextCase):

    def test_texts(self):
        for outcome, text in (
                (Outcome(), "-"), (Outcome(cost=1), "- cost 1"), (Outcome(Bag(), ("b", "a")), "- any a b"),
                (Outcome(Bag.of("2 b 1 c"), ("a", "c"), 30), "2 b 1 c any a c cost 30"),
                (Outcome(Bag.of("1 any")), "1 any"), (Outcome(Bag.of("1 any"), ("any",)), "1 any any any"),
                (Outcome(Bag(), ("any",)), "- any any"), (Outcome(Bag(), ("cost",)), "- any cost"),
                (Outcome(Bag(), ("cost", "any"), 5), "- any any cost cost 5"),
                (Outcome(Bag.of("5 cost")), "5 cost"), (Outcome(Bag.of("5 cost"), (), 5), "5 cost cost 5"),
                (Outcome(Bag.of("1 any 1 cost"), ("any", "cost"), 7), "1 any 1 cost any any cost cost 7"),
                (Outcome(Bag((("a", GREAT),)), ("abcdefgh",), GREAT), f"{GREAT} a any abcdefgh cost {GREAT}")):
            self.assertEqual(outcome_text(outcome), text)
            self.assertEqual(outcome_text(outcome=outcome), text)
            self.assertEqual(outcome_of(text), outcome)
            self.assertEqual(outcome_of(text=text), outcome)

    def test_all_short_rows_of_words(self):
        said = Counter()
        for many in range(1, 7):
            for words in itertools.product(WORDS, repeat=many):
                if many < 6 or words[0] in ("-", "1"):
                    said[self.check(" ".join(words))] += 1
        self.assertGreater(min(said.values()), 50)

    def check(self, text):
        if is_outcome_text(text):
            self.assertEqual(outcome_text(outcome_of(text)), text)
            return True
        try:
            found = outcome_of(text)
        except BadLine as error:
            self.assertEqual(error.number, 0)
            return False
        self.fail((text, outcome_text(found)))

    def test_texts_with_a_letter_changed(self):
        rng = random.Random(101)
        letters = "".join(chr(code) for code in range(32, 127) if chr(code) != chr(37)) + "\n"
        for text in ("-", "- any b cost 12", "2 ab 10 c any a any cost 7", "1 any any any", "5 cost cost 5"):
            for at in range(len(text) + 1):
                for letter in rng.sample(letters, 20) + list(" -10a"):
                    self.check(text[:at] + letter + text[at:])
                    self.check(text[:at] + letter + text[at + 1:])
                self.check(text[:at] + text[at + 1:])

    def test_wrong_texts(self):
        for text in ("", " ", "--", "- ", " -", "- -", "0", "1", "a", "1a", "0 a", "01 a", "1  a", "1 a ", " 1 a",
                     "1 a 1 a", "1 b 1 a", "1 A", "1 abcdefghi", "any", "any a", "cost", "cost 1", "cost cost 1",
                     "- any", "- any ", "-  any a", "- any b a", "- any a a", "- any A", "- any 1", "- any b any a",
                     "- any cost 1", "- any z cost", "- cost", "- cost 0", "- cost 01", "- cost -1", "- cost 1 ",
                     "- cost 1 any a", "- cost 1 cost 1", "- any a cost 1 cost 2", "1 a any", "1 a cost", "1 a cost 0",
                     "1 a cost 1 2", "1 cost 1", "1 any 1", "- 1 a", "1 a -", "1 a any -", "-\n", "\n-", "-\n-",
                     "1 a any b\n", "+1 a", "1_0 a", "1 a cost 1_0", "1 a cost +1", "1\ta", "- any a\tb", "1 \u00e4",
                     "\u0661 a", "- cost \u00b2", "1 a, 1 b", "1 a any b, c", "a: -", "page got: -"):
            self.bad(0, outcome_of, text)


class TestPlans(TextCase):

    def test_each_plan_is_read_back(self):
        rng = random.Random(102)
        for _ in range(300):
            plan = costly_plan(rng, 5, 9)
            text = plan_text(plan)
            self.assertEqual(plan_text(plan=plan), text)
            lines = text.split("\n")
            self.assertEqual(lines, [f"{kind} {name}: {outcome_text(outcome)}" for kind, name, outcome in plan.rows])
            self.assertEqual(plan_of(text), plan)
            rng.shuffle(lines)
            self.assertEqual(plan_of(text="\n".join(lines)), plan)

    def test_no_outcomes(self):
        self.assertEqual((plan_text(Plan()), plan_of("-")), ("-", Plan()))

    def test_kinds_called_any_and_cost(self):
        text = "any any: 1 any 2 cost any any cost cost 3\nany cost: - any any\ncost any: - cost 1\ncost cost: 1 cost"
        plan = plan_of(text)
        self.assertEqual((plan_text(plan), plan.kinds), (text, ("any", "cost")))
        self.assertEqual(plan["any", "any"], Outcome(Bag.of("1 any 2 cost"), ("any", "cost"), 3))

    def test_the_first_wrong_line(self):
        for text, number in (
                ("", 0), ("\n", 0), ("a b: -\n", 1), ("\na b: -", 0), ("a b: -\n\nc d: -", 1), ("-\n-", 0),
                ("-\na b: -", 0), ("a b: -\n-", 1), ("a b", 0), ("a b:", 0), ("a b: ", 0), ("a b:-", 0),
                ("a b : -", 0), ("a b:  -", 0), (" a b: -", 0), ("a b: - ", 0), ("a  b: -", 0), ("a: -", 0),
                ("a b c: -", 0), ("A b: -", 0), ("a B: -", 0), ("a abcdefghi: -", 0), ("abcdefghi a: -", 0),
                ("a b: -\na b: -", 1), ("a b: -\nb b: -\na c: -\na b: 1 c\na b: x", 3), ("a b: -\na c: -\na b: -", 2),
                ("a b: - any\na b: -", 0), ("a b: -\nb c: 2 d 1 c\nc: -", 1), ("a b: -\nc d: - cost 0", 1),
                ("a b: 1 c\nb c: 01 c\nz", 1), ("a b: c d: -", 0), ("a b: -: -", 0), ("a b: -;c d: -", 0),
                ("a b: -\r\nc d: -", 0), ("a 1: -", 0), ("1 a: -", 0), (": -", 0), ("a : -", 0), (" a: -", 0)):
            self.bad(number, plan_of, text)

    def test_60_lines(self):
        names = ["".join(letters) for letters in itertools.product("abcdefgh", repeat=2)]
        lines = [f"kind {name}: {GREAT} other any kind cost {GREAT}" for name in names]
        plan = plan_of("\n".join(lines))
        self.assertEqual((len(plan), plan_text(plan)), (64, "\n".join(lines)))
        self.bad(64, plan_of, "\n".join(lines + ["kind ab: -"]))
        self.bad(63, plan_of, "\n".join(lines[:63] + ["kind ab: -"] + lines[63:]))


class TestNotices(TextCase):

    def test_notices_are_read_back_in_their_order(self):
        rng = random.Random(103)
        for _ in range(200):
            plan = costly_plan(rng)
            held = random_run(rng, plan, random_start(rng, plan), 6)
            for notices in (tuple(held), held, tuple(held[::-1])):
                text = notices_text(notices)
                self.assertEqual(notices_of(text), tuple(notices))
                self.assertEqual(notices_of(text=notices_text(notices=notices)), tuple(notices))
            lines = [f"{notice.kind} {notice.outcome}: {notice.made.text}" for notice in held]
            self.assertEqual(notices_text(held), "\n".join(lines) or "-")

    def test_no_notices(self):
        self.assertEqual((notices_text(()), notices_text([]), notices_of("-")), ("-", "-", ()))

    def test_the_same_notice_several_times(self):
        notice = Notice("any", "cost", Bag((("any", GREAT), ("cost", 2))))
        text = f"any cost: {GREAT} any 2 cost"
        self.assertEqual(notices_text((notice,) * 3), "\n".join([text] * 3))
        self.assertEqual(notices_of("\n".join([text] * 60)), (notice,) * 60)

    def test_the_first_wrong_line(self):
        for text, number in (
                ("", 0), ("\n", 0), ("a b: -\n", 1), ("-\n-", 0), ("a b: -\n-", 1), ("a b:", 0), ("a b: ", 0),
                ("a b: - ", 0), ("a b: -\na b: 0 c", 1), ("a b: 1 c\na b: 1 c any d", 1), ("a b: - cost 1", 0),
                ("a b: - any c", 0), ("a b: 2 d 1 c", 0), ("a b: 1 c 1 c", 0), ("a b: 1 C", 0), ("A b: -", 0),
                ("a b1: -", 0), ("ab: -", 0), ("a b c: -", 0), ("a b: -\na b: -\n a b: -", 2), ("a  b: -", 0)):
            self.bad(number, notices_of, text)


if __name__ == "__main__":
    unittest.main()
