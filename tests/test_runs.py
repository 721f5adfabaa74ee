"""Point 12: runs."""

import itertools
import random
import unittest

from enoughhands.errors import BadNumber, BadRun, TooMany, Unlike
from enoughhands.plans import Plan
from enoughhands.runs import between, every, is_run, lots, many, nth, number_of, shows_between

from tests import plain

WIDE = "beside(a,b,c,d,e,f,g,h)"


def texts():
    return plain.some_texts(12, 100) + ["a", "either(a,b)", "then(a,b,c,d,e,f,g,h)", "either(a,b,c,d,e,f,g,h)",
                                        "beside(either(a,b),either(c,d),either(e,f))"]


class Counted(plain.Raises, unittest.TestCase):

    def test_all_runs(self):
        for text in texts():
            with self.subTest(text):
                plan, runs = Plan(text), plain.runs(text)
                self.assertEqual(many(plan), len(runs))
                if len(runs) > 200:
                    self.raises(TooMany, 200, every, plan)
                else:
                    self.assertEqual(every(plan), tuple(runs))
                for number, run in list(enumerate(runs))[::1 + len(runs) // 40]:
                    self.assertEqual(nth(plan, number), run)
                    self.assertEqual(number_of(plan, run), number)
                    self.assertIs(is_run(plan, run), True)
                self.raises(BadNumber, len(runs), nth, plan, len(runs))

    def test_lots(self):
        for text in texts():
            with self.subTest(text):
                told = tuple(sorted({plain.lot(done) for done in plain.beginnings(text)}))
                self.assertEqual(lots(Plan(text)), told)
        self.assertEqual(len(lots(Plan(WIDE))), 256)

    def test_eight_tasks_beside(self):
        plan = Plan(WIDE)
        runs = list(itertools.permutations("abcdefgh"))
        self.assertEqual(many(plan), 40320)
        self.raises(TooMany, 200, every, plan)
        for number in (0, 1, 5039, 5040, 12345, 40319):
            self.assertEqual(nth(plan, number), runs[number])
            self.assertEqual(number_of(plan, runs[number]), number)

    def test_about_200_runs(self):
        full = Plan("beside(then(either(beside(g,c),f),either(h,d)),then(beside(a,e),b))")
        self.assertEqual(many(full), 200)
        self.assertEqual(every(full), tuple(plain.runs(full.text)))
        for text, number in (("beside(either(beside(c,h),then(a,b),g),d,e,f)", 204),
                             ("either(d,beside(b,then(h,then(f,e),a),c,g))", 211)):
            self.assertEqual(many(Plan(text)), number)
            self.raises(TooMany, 200, every, Plan(text))

    def test_numbers_of_other_kinds(self):
        plan = Plan("beside(a,b)")
        for number in plain.odd_values(plan):
            if not (type(number) is int and number in (0, 1)):
                self.raises(BadNumber, number, nth, plan, number)
        self.raises(BadNumber, -1, nth, plan=plan, number=-1)
        self.assertEqual(nth(plan=plan, number=1), ("b", "a"))

    def test_runs_of_other_kinds(self):
        for text in ("then(a,either(b,c))", "beside(a,b)", "a", "either(a,b)"):
            plan, runs = Plan(text), plain.runs(text)
            values = plain.odd_values(plan) + [value for run in runs for value in plain.near(run)]
            for value in values:
                right = any(plain.alike(value, run) for run in runs)
                self.assertIs(is_run(plan, value), right, value)
                if not right:
                    self.raises(BadRun, value, number_of, plan, value)
        self.assertIs(is_run(plan=Plan("a"), value=("a",)), True)
        self.assertEqual(number_of(plan=Plan("either(a,b)"), run=("b",)), 1)

    def test_names(self):
        """Other names, and parts in another sequence: the same runs by these."""
        plan = Plan("beside(then(a,either(b,c)),d)")
        other = Plan("beside(x,then(q,either(z,y)))")
        names = dict(zip("abcd", "qzyx"))
        self.assertEqual(sorted(tuple(names[task] for task in run) for run in every(plan)), list(every(other)))
        self.assertEqual(many(plan), many(other))


class Between(plain.Raises, unittest.TestCase):

    def is_right(self, runs, one, other, value):
        """Whether a value is such a row, by the words of the document."""
        if not (type(value) is tuple and len(value) == 2 and type(value[0]) is str and value[0] == "rows"):
            return False
        rows = value[1]
        if not (type(rows) is tuple and rows and all(any(plain.alike(row, run) for run in runs) for row in rows)):
            return False
        return (rows[0] == one and rows[-1] == other and len(rows) == plain.distance(runs, one, other) + 1
                and all(plain.neighbours(a, b) for a, b in zip(rows, rows[1:])))

    def test_rows(self):
        rng = random.Random(5)
        for text in plain.some_texts(13, 60, 5) + ["beside(a,b,c,d)", "a"]:
            plan, runs = Plan(text), plain.runs(text)
            for _ in range(4):
                one = rng.choice(runs)
                other = rng.choice([run for run in runs if sorted(run) == sorted(one)])
                with self.subTest(text, one=one, other=other):
                    value = between(plan, one, other)
                    self.assertTrue(self.is_right(runs, one, other, value))
                    self.assertIs(shows_between(plan, one, other, value), True)
                    near = list(plain.near(value))
                    for changed in rng.sample(near, min(len(near), 40)):
                        self.assertIs(shows_between(plan, one, other, changed),
                                      self.is_right(runs, one, other, changed), changed)

    def test_other_rows(self):
        plan = Plan("beside(a,b,c)")
        one, other = tuple("abc"), tuple("cba")
        for ways in (("abc", "bac", "bca", "cba"), ("abc", "acb", "cab", "cba")):
            self.assertIs(shows_between(plan, one, other, ("rows", tuple(tuple(row) for row in ways))), True)
        for ways in (("abc", "cba"), ("abc", "bac", "abc", "bac", "bca", "cba"), ("abc", "bac", "cba"), ("abc",), (),
                     ("abc", "abc", "bac", "bca", "cba"), ("abc", "bac", "cab", "cba")):
            self.assertIs(shows_between(plan, one, other, ("rows", tuple(tuple(row) for row in ways))), False)
        for one, other, ways in (("abc", "bac", ("bca", "bac")), ("abc", "bac", ("abc", "acb")),
                                 ("abc", "cba", ("abc", "acb", "abc", "cba")),
                                 ("abc", "cba", ("abc", "cba", "bca", "cba"))):
            self.assertIs(shows_between(plan, tuple(one), tuple(other), ("rows", tuple(
                tuple(row) for row in ways))), False)
        bound = Plan("beside(then(a,b),c)")
        self.assertIs(shows_between(bound, tuple("abc"), tuple("cab"), ("rows", tuple(
            tuple(row) for row in ("abc", "acb", "cab")))), True)
        self.assertIs(shows_between(bound, tuple("abc"), tuple("cab"), ("rows", tuple(
            tuple(row) for row in ("abc", "bac", "cab")))), False)

    def test_other_values(self):
        plan = Plan("beside(a,b)")
        for value in plain.odd_values(plan):
            self.assertIs(shows_between(plan, ("a", "b"), ("b", "a"), value), False)

    def test_errors(self):
        plan = Plan("either(beside(a,b),beside(c,d))")
        ab, ba, cd = ("a", "b"), ("b", "a"), ("c", "d")
        for call in (between, lambda *told: shows_between(*told, None)):
            self.raises(BadRun, ("a",), call, plan, ("a",), ("b",))
            self.raises(BadRun, ("b",), call, plan, ab, ("b",))
            self.raises(Unlike, None, call, plan, ab, cd)
            self.raises(BadRun, ["a", "b"], call, plan, ["a", "b"], cd)
            for value in plain.odd_values(plan):
                if value not in (ab, ba):
                    self.raises(BadRun, value, call, plan, value, None)
                    self.raises(BadRun, value, call, plan, cd, value)

    def test_by_name_and_alike(self):
        plan = Plan("then(a,b)")
        run = ("a", "b")
        self.assertEqual(between(plan=plan, one=run, other=run), ("rows", (run,)))
        self.assertIs(shows_between(plan=plan, one=run, other=run, value=("rows", (run,))), True)
        self.assertIs(shows_between(plan, run, run, ("rows", (run, run))), False)

    def test_far_apart(self):
        plan = Plan(WIDE)
        one, other = tuple("abcdefgh"), tuple("hgfedcba")
        value = between(plan, one, other)
        self.assertEqual(len(value[1]), 29)
        self.assertIs(shows_between(plan, one, other, value), True)
        self.assertIs(shows_between(plan, other, one, value), False)
        self.assertIs(shows_between(plan, other, one, ("rows", value[1][::-1])), True)


if __name__ == "__main__":
    unittest.main()
