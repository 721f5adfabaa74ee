"""Point 11: plans."""

import random
import unittest

from enoughhands.errors import BadChoice, BadDone, BadPlan
from enoughhands.plans import Plan

from tests import plain

WORDS = ("then", "beside", "either")
BAD_TEXTS = [
    "", " ", "A", "a1", "a_b", "abcdefghi", "then", "beside", "either", "then()", "then(a)", "then(a,)",
    "then(,a)", "then(a,b", "then(a,b))", "then a,b)", "then((a,b))", "(a,b)", "a,b", "a(b,c)", "Then(a,b)",
    "then(a, b)", "then (a,b)", " then(a,b)", "then(a,b) ", "then(a,b)\n", "\n", "then(a,b),c", "then(a,b)c",
    "then(a,then)", "then(a,beside(b))", "then(a,a)", "beside(a,then(b,a))", "either(a,a)", "either(a,beside(b,a))",
    "then(a),b,(c,d)", "then(a)(b,c)", "then(a,b),(c,d)", "then(a,b)(c)", "then(a;b)", "then(a,b,c,d,e,f,g,h,i)",
    "beside(then(a,b,c,d),then(e,f,g,h,i))", "beside(either(a,b),either(c,d),either(e,f),either(g,h))",
    "beside(either(a,b,c),either(d,e,f))", "then(either(a,b,c),either(d,e,f),g,h)", "a-b", "a.b", "0", "None",
    "then(" * 600, "then(" * 500 + "a" + ")" * 500, "then(a," * 400 + "b" + ")" * 400, "a" * 3000, "," * 3000,
    "(" * 3000, ")" * 3000, "then(" + "a," * 1400 + "b)", "thenx(a,b)", "xthen(a,b)", "then(a,b,)", "then(a,,b)",
]
GOOD_TEXTS = {
    "a": ("a",), "abcdefgh": ("abcdefgh",), "thens": ("thens",), "the": ("the",), "zzzzzzzz": ("zzzzzzzz",),
    "then(thenb,a)": ("thenb", "a"), "beside(then(a,b),then(c,d))": tuple("abcd"),
    "then(a,b,c,d,e,f,g,h)": tuple("abcdefgh"), "either(h,g,f,e,d,c,b,a)": tuple("hgfedcba"),
    "then(a,then(b,then(c,then(d,then(e,then(f,then(g,h)))))))": tuple("abcdefgh"),
    "beside(either(a,b),either(c,d),either(e,f),g,h)": tuple("abcdefgh"),
    "either(then(a,either(b,c)),beside(d,e))": tuple("abcde"),
}


def texts():
    return plain.some_texts(11, 120) + list(GOOD_TEXTS)


class Texts(plain.Raises, unittest.TestCase):

    def test_no_plans(self):
        for text in BAD_TEXTS:
            with self.subTest(text[:60]):
                self.raises(BadPlan, text, Plan, text)

    def test_other_values(self):
        rights = {"a", "b", "run", "stuck", "then(a,b)"}
        for value in plain.odd_values(Plan("a"), Plan("then(a,b)")):
            if isinstance(value, str) and value in rights:
                self.assertEqual(Plan(value).text, value)
            else:
                self.raises(BadPlan, value, Plan, value)

    def test_good_texts(self):
        for text, tasks in GOOD_TEXTS.items():
            with self.subTest(text):
                self.assertEqual(Plan(text).text, text)
                self.assertEqual(Plan(text).tasks, tasks)

    def test_argument_by_name(self):
        self.assertEqual(Plan(text="then(a,b)").tasks, ("a", "b"))
        self.raises(BadPlan, "x y", Plan, text="x y")

    def test_all_short_texts(self):
        """Each text of few signs is a plan just if it is one by the words of the document."""
        pieces = ("a", "b", "then", "(", ")", ",")

        def right(text):
            if text in ("a", "b", "aa", "ab", "ba", "bb"):
                return True
            return text in ("then(a,b)", "then(b,a)")

        found = [""]
        for _ in range(6):
            found = [text + piece for text in found for piece in pieces]
            for text in found:
                if len(text) < 3 or text.startswith("then(") and text.count(",") == 1:
                    try:
                        Plan(text)
                        is_plan = True
                    except BadPlan:
                        is_plan = False
                    self.assertEqual(is_plan, right(text), text)


class Properties(plain.Raises, unittest.TestCase):

    def test_of_all_kinds(self):
        for text in texts():
            with self.subTest(text):
                plan, shape = Plan(text), plain.tree(text)
                runs = plain.runs(text)
                self.assertEqual(plan.text, text)
                self.assertEqual(plan.kind, "task" if isinstance(shape, str) else shape[0])
                self.assertIs(type(plan.parts), tuple)
                parts = [] if isinstance(shape, str) else shape[1]
                self.assertEqual([part.text for part in plan.parts], [plain.tree_text(part) for part in parts])
                self.assertTrue(all(type(part) is Plan for part in plan.parts))
                self.assertEqual(plan.tasks, tuple(plain.tree_tasks(shape)))
                self.assertEqual(plan.choices, tuple(sorted({plain.lot(run) for run in runs})))
                self.assertIs(plan.is_plain, "either(" not in text)
                self.assertEqual(len(plan), len(plan.tasks))

    def test_turned(self):
        def turn(shape):
            if isinstance(shape, str):
                return shape
            parts = [turn(part) for part in shape[1]]
            return (shape[0], parts[::-1] if shape[0] == "then" else parts)

        for text in texts():
            with self.subTest(text):
                turned = Plan(text).turned
                self.assertIs(type(turned), Plan)
                self.assertEqual(turned.text, plain.tree_text(turn(plain.tree(text))))
                self.assertEqual(plain.runs(turned.text), sorted(run[::-1] for run in plain.runs(text)))
                again = Plan(turned.text)
                for name in ("kind", "tasks", "choices", "is_plain"):
                    self.assertEqual(getattr(turned, name), getattr(again, name))
                self.assertEqual(turned.turned.text, text)
                self.assertEqual([part.text for part in turned.parts], [part.text for part in again.parts])
                self.assertEqual([part.turned.text for part in turned.parts],
                                 [part.turned.text for part in again.parts])
                for choice in turned.choices:
                    self.assertEqual(turned.chosen(choice).text, again.chosen(choice).text)

    def test_length_and_tasks_within(self):
        plan = Plan("then(b,either(a,c))")
        self.assertEqual(len(plan), 3)
        for value in ("a", "b", "c"):
            self.assertIs(value in plan, True)
        for value in plain.odd_values(plan, Plan("a")):
            if value not in ("a", "b"):
                self.assertIs(value in plan, False, value)
        for value in ("then(b,either(a,c))", "either(a,c)", "then", "ab"):
            self.assertIs(value in plan, False)

    def test_equality(self):
        plan = Plan("then(a,b)")
        self.assertTrue(plan == Plan("then(a,b)") and not plan != Plan("then(a,b)"))
        for other in (Plan("then(b,a)"), Plan("beside(a,b)"), Plan("a"), Plan("then(a,then(b,c))")):
            self.assertTrue(plan != other and not plan == other)
        self.assertFalse(Plan("beside(a,b)") == Plan("beside(b,a)"))
        self.assertEqual(plan, Plan("then(b,a)").turned)
        self.assertEqual(plan, Plan("beside(then(a,b),c)").parts[0])
        for value in plain.odd_values():
            self.assertTrue(plan != value and not plan == value)


class Chosen(plain.Raises, unittest.TestCase):

    def test_each_choice(self):
        for text in texts():
            plan = Plan(text)
            for choice in plan.choices:
                with self.subTest(text, choice=choice):
                    got = plan.chosen(choice)
                    self.assertIs(type(got), Plan)
                    self.assertEqual(got.text, plain.chosen_text(text, choice))
                    self.assertTrue(got.is_plain)
                    self.assertEqual(plain.runs(got.text),
                                     [run for run in plain.runs(text) if plain.lot(run) == choice])

    def test_wrong_choices(self):
        plan = Plan("then(a,either(b,c))")
        self.assertEqual(plan.chosen(choice=("a", "b")).text, "then(a,b)")
        for choice in plain.odd_values(plan) + [("a", "c", "b"), ("c", "a"), ("a", "b", "c"), ["a", "c"], ("b",)]:
            if choice != ("a", "b"):
                self.raises(BadChoice, choice, plan.chosen, choice)
        self.raises(BadChoice, (), Plan("a").chosen, ())
        self.raises(BadChoice, "a", Plan("a").chosen, choice="a")

    def test_eithers_within_eithers(self):
        plan = Plan("either(a,either(b,then(c,either(d,e))))")
        self.assertEqual([plan.chosen(choice).text for choice in plan.choices], ["a", "b", "then(c,d)", "then(c,e)"])


class Going(plain.Raises, unittest.TestCase):

    def test_next_and_rest(self):
        for text in texts():
            plan, runs = Plan(text), plain.runs(text)
            if len(runs) > 300:
                continue
            for done in plain.beginnings(text):
                with self.subTest(text, done=done):
                    later = [run for run in runs if run[:len(done)] == done]
                    now = tuple(sorted({run[len(done)] for run in later if len(run) > len(done)}))
                    self.assertEqual(plan.next(done), now)
                    rest = plan.rest(done)
                    self.assertEqual(None if rest is None else rest.text, plain.rest_text(text, done))
                    if rest is None:
                        self.assertEqual(later, [done])
                    else:
                        self.assertIs(type(rest), Plan)
                        self.assertEqual(plain.runs(rest.text), [run[len(done):] for run in later])

    def test_no_beginnings(self):
        for text in ("then(a,either(b,c))", "beside(a,b,c)", "a", "either(a,then(b,c))"):
            plan = Plan(text)
            right = set(plain.beginnings(text))
            wrong = [done for done in plain.odd_values(plan) if not isinstance(done, tuple) or repr(done) not in
                     {repr(one) for one in right}]
            near = [done for one in right for done in plain.near(one) if not (
                isinstance(done, tuple) and repr(done) in {repr(one) for one in right})]
            for done in wrong + near:
                self.raises(BadDone, done, plan.next, done)
                self.raises(BadDone, done, plan.rest, done)

    def test_by_name(self):
        plan = Plan("then(a,b)")
        self.assertEqual(plan.next(done=("a",)), ("b",))
        self.assertEqual(plan.rest(done=("a",)).text, "b")
        self.raises(BadDone, ("b",), plan.rest, done=("b",))

    def test_brackets_stay(self):
        plan = Plan("then(a,then(b,beside(c,beside(d,e))),either(f,either(g,h)))")
        self.assertEqual(plan.rest(()).text, plan.text)
        self.assertEqual(plan.rest(("a",)).text, "then(then(b,beside(c,beside(d,e))),either(f,either(g,h)))")
        self.assertEqual(plan.rest(("a", "b", "c")).text, "then(beside(d,e),either(f,either(g,h)))")
        self.assertEqual(plan.rest(tuple("abced")).text, "either(f,either(g,h))")
        self.assertIsNone(plan.rest(tuple("abcedg")))
        self.assertEqual(Plan("beside(either(then(a,b),c),d)").rest(("a",)).text, "beside(b,d)")

    def test_eight_tasks(self):
        plan = Plan("beside(a,b,c,d,e,f,g,h)")
        self.assertEqual(plan.next(tuple("hgfedcb")), ("a",))
        self.assertEqual(plan.next(tuple("hgfedcba")), ())
        self.assertIsNone(plan.rest(tuple("hgfedcba")))
        self.raises(BadDone, tuple("hgfedcbaa"), plan.next, tuple("hgfedcbaa"))

    def test_nothing_is_changed(self):
        """The same plan tells the same, whatever was asked ahead."""
        rng = random.Random(3)
        plan = Plan("beside(then(a,either(b,c)),d)")
        asks = [lambda: plan.next(("a",)), lambda: plan.rest(("a", "d")).text, lambda: plan.turned.text,
                lambda: plan.chosen(("a", "b", "d")).text, lambda: plan.choices, lambda: [p.text for p in plan.parts]]
        told = [ask() for ask in asks]
        for _ in range(40):
            at = rng.randrange(len(asks))
            self.assertEqual(asks[at](), told[at])


if __name__ == "__main__":
    unittest.main()
