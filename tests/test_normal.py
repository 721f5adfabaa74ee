"""Point 14: plans that are the same, and point 3 (d) for them."""

import random
import unittest

from enoughhands.normal import normal, same, shows_same, shows_within_runs, within_runs
from enoughhands.plans import Plan

from tests import plain


def is_normal(shape):
    """Whether a plan is written in the normal way."""
    if isinstance(shape, str):
        return True
    kind, parts = shape
    leasts = [min(plain.tree_tasks(part)) for part in parts]
    return (all(isinstance(part, str) or part[0] != kind for part in parts) and all(map(is_normal, parts))
            and (kind == "then" or leasts == sorted(leasts)))


def shaken(rng, shape):
    """The same plan with its brackets and the sequence of its parts changed."""
    if isinstance(shape, str):
        return shape
    kind, parts = shape[0], [shaken(rng, part) for part in shape[1]]
    if kind != "then":
        rng.shuffle(parts)
    while len(parts) > 2 and rng.random() < 0.6:
        at = rng.randrange(len(parts) - 1)
        parts[at:at + 2] = [(kind, parts[at:at + 2])]
    return (kind, parts)


def two_texts(seed, many, most=5):
    """Pairs of texts, of the same tasks or nearly so, some of them with the same runs."""
    rng = random.Random(seed)
    for _ in range(many):
        names = "abcdefgh"[:rng.randint(1, most)]
        one = plain.any_text(rng, names)
        kind = rng.randrange(4)
        if kind == 0:
            other = plain.tree_text(shaken(rng, plain.tree(one)))
        elif kind == 1:
            old = rng.choice(plain.KINDS)
            other = one.replace(old, rng.choice(plain.KINDS), 1)
            if plain.ways(plain.tree(other)) > 8:
                continue
        elif kind == 2:
            other = plain.any_text(rng, names)
        else:
            other = plain.any_text(rng, names[1:] + rng.choice(["", "x"]) or "a")
        yield (one, other) if rng.random() < 0.5 else (other, one)


class Normal(unittest.TestCase):

    def test_normal(self):
        for text in plain.some_texts(31, 150):
            with self.subTest(text):
                told = normal(Plan(text))
                self.assertIs(type(told), Plan)
                self.assertTrue(is_normal(plain.tree(told.text)), told.text)
                self.assertEqual(plain.runs(told.text), plain.runs(text))
                self.assertEqual(normal(told).text, told.text)

    def test_just_one(self):
        rng = random.Random(32)
        for text in plain.some_texts(33, 100, 8):
            other = plain.tree_text(shaken(rng, plain.tree(text)))
            self.assertEqual(normal(Plan(text)), normal(Plan(other)), (text, other))

    def test_some(self):
        for text, wanted in (
                ("a", "a"), ("then(b,a)", "then(b,a)"), ("beside(b,a)", "beside(a,b)"), ("either(b,a)", "either(a,b)"),
                ("then(then(d,c),then(b,a))", "then(d,c,b,a)"),
                ("beside(then(c,d),beside(b,then(e,a)))", "beside(then(e,a),b,then(c,d))"),
                ("either(h,either(g,either(f,either(e,either(d,either(c,either(b,a)))))))",
                 "either(a,b,c,d,e,f,g,h)"),
                ("beside(bb,b,ab,abc)", "beside(ab,abc,b,bb)")):
            self.assertEqual(normal(plan=Plan(text)).text, wanted)


class Same(unittest.TestCase):

    def test_same(self):
        kinds = set()
        for one, other in two_texts(34, 400):
            with self.subTest(one=one, other=other):
                runs, its = plain.runs(one), plain.runs(other)
                value = same(Plan(one), Plan(other))
                kinds.add(value[0])
                if runs == its:
                    self.assertEqual(value, ("same",))
                else:
                    self.assertEqual(value[0], "apart")
                    self.assertEqual(len(value), 2)
                    self.assertNotEqual(value[1] in runs, value[1] in its)
                self.check(shows_same, one, other, value, lambda run: (run in runs) != (run in its),
                           "same", "apart", runs == its, runs + its)
        self.assertEqual(kinds, {"same", "apart"})

    def test_within(self):
        kinds = set()
        for one, other in two_texts(35, 400):
            with self.subTest(one=one, other=other):
                runs, its = plain.runs(one), plain.runs(other)
                value = within_runs(Plan(one), Plan(other))
                kinds.add(value[0])
                if set(runs) <= set(its):
                    self.assertEqual(value, ("within",))
                else:
                    self.assertEqual(value[0], "more")
                    self.assertEqual(len(value), 2)
                    self.assertTrue(value[1] in runs and value[1] not in its)
                self.check(shows_within_runs, one, other, value, lambda run: run in runs and run not in its,
                           "within", "more", set(runs) <= set(its), runs + its)
        self.assertEqual(kinds, {"within", "more"})

    def check(self, shows, one, other, value, is_right, word, more, holds, runs):
        """Check the function shows_.. by what was told, runs, and values near to these."""
        def wanted(value):
            if plain.alike(value, (word,)):
                return holds
            if type(value) is not tuple or len(value) != 2 or not plain.alike(value[0], more):
                return False
            return any(plain.alike(value[1], run) for run in runs) and is_right(value[1])

        plan, its = Plan(one), Plan(other)
        self.assertIs(shows(plan, its, value), True)
        values = [(word,), (more, ())] + [(more, run) for run in runs[:8]] + list(plain.near(value))
        for told in values:
            self.assertIs(shows(plan, its, told), wanted(told), told)

    def test_other_values(self):
        one, other = Plan("beside(a,b)"), Plan("then(b,a)")
        for value in plain.odd_values(one, other):
            self.assertIs(shows_same(one, other, value), False)
            self.assertIs(shows_within_runs(one, other, value), False)
            self.assertIs(shows_same(one, one, value), value == ("same",))
            self.assertIs(shows_within_runs(other, one, value), value == ("within",))
        self.assertIs(shows_same(one, other, ("apart", ("a", "b"))), True)
        self.assertIs(shows_same(one, other, ("apart", ["a", "b"])), False)
        self.assertIs(shows_within_runs(one, other, ("more", ("a", "b"))), True)
        self.assertIs(shows_within_runs(other, one, ("more", ("a", "b"))), False)

    def test_by_name(self):
        one, other = Plan("then(a,b)"), Plan("beside(a,b)")
        self.assertEqual(same(one=one, other=other), ("apart", ("b", "a")))
        self.assertEqual(within_runs(other=other, one=one), ("within",))
        self.assertIs(shows_same(one=one, other=other, value=("same",)), False)
        self.assertIs(shows_within_runs(one=one, other=other, value=("within",)), True)

    def test_eight_tasks(self):
        wide, ring = Plan("beside(a,b,c,d,e,f,g,h)"), Plan("beside(beside(h,g,f,e),beside(d,c,b,a))")
        bound = Plan("beside(a,b,c,d,e,f,then(g,h))")
        self.assertEqual(same(wide, ring), ("same",))
        self.assertEqual(within_runs(bound, wide), ("within",))
        kind, run = within_runs(wide, bound)
        self.assertEqual(kind, "more")
        self.assertLess(run.index("h"), run.index("g"))
        self.assertIs(shows_within_runs(wide, bound, (kind, run)), True)


if __name__ == "__main__":
    unittest.main()
