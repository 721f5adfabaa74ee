"""Point 33: let runs."""

import random
import unittest

from enoughhands.errors import BadNumber, BadRun, BadStock, BadTrade, TooMany
from enoughhands.letruns import (joined, let_every, let_many, let_nth, let_number, let_stairs, shows_joined)
from enoughhands.plans import Plan
from enoughhands.rows import first
from enoughhands.runs import many
from enoughhands.trades import told_back

from tests import plain
from tests.test_lots import Told, cases

WIDE = "beside(a,b,c,d,e,f,g,h)"
FULL = "beside(then(either(beside(g,c),f),either(h,d)),then(beside(a,e),b))"


class Counted(plain.Raises, unittest.TestCase):

    def test_all_let_runs(self):
        sizes = set()
        for text, trade, stock in cases(201, 100):
            with self.subTest(text, trade=trade, stock=stock):
                plan, runs = Plan(text), Told(text, trade, stock).let_runs
                sizes.add(len(runs))
                self.assertEqual(let_many(plan, trade, stock), len(runs))
                self.assertEqual(let_every(plan, trade, stock), tuple(runs))
                for number, run in list(enumerate(runs))[::1 + len(runs) // 20]:
                    self.assertEqual(let_nth(plan, trade, stock, number), run)
                    self.assertEqual(let_number(plan, trade, stock, run), number)
                for number in (len(runs), -1, None, "0", True, False, 0.5, (0,)):
                    self.raises(BadNumber, number, let_nth, plan, trade, stock, number)
                for run in plain.runs(text)[:30]:
                    if run not in runs:
                        self.raises(BadRun, run, let_number, plan, trade, stock, run)
        self.assertTrue({0, 1} < sizes)

    def test_about_200(self):
        plan = Plan(FULL)
        self.assertEqual(len(let_every(plan, (), 0)), 200)
        for text, number in (("beside(either(beside(c,h),then(a,b),g),d,e,f)", 204), (WIDE, 40320)):
            self.assertEqual(let_many(Plan(text), (), 7), number)
            self.raises(TooMany, 200, let_every, Plan(text), (), 7)
        # A need lets fewer runs than 200 of very many.
        late = (("a", 5, 0), ("b", 4, 1), ("c", 3, 1), ("d", 2, 1), ("e", 1, 1), ("f", 0, 1))
        self.assertEqual(let_many(Plan(WIDE), late, 0), 56)
        self.assertEqual(let_every(Plan(WIDE), late, 0), tuple(
            run for run in plain.runs(WIDE) if plain.is_let(0, plain.steps_of(late, run))))
        self.assertEqual(let_many(Plan(WIDE), (("a", 1, 0),), 0), 0)
        self.assertEqual(let_every(Plan(WIDE), (("a", 1, 0),), 0), ())

    def test_numbers_of_eight_tasks(self):
        plan = Plan(WIDE)
        trade = (("h", 1, 0), ("g", 0, 1))[::-1]
        runs = [run for run in plain.runs(WIDE) if run.index("g") < run.index("h")]
        self.assertEqual(let_many(plan, trade, 0), 20160)
        for number in (0, 1, 7777, 20159):
            self.assertEqual(let_nth(plan, trade, 0, number), runs[number])
            self.assertEqual(let_number(plan, trade, 0, runs[number]), number)
        self.raises(BadNumber, 20160, let_nth, plan, trade, 0, 20160)

    def test_errors(self):
        plan = Plan("then(a,b)")
        run = ("a", "b")
        self.assertEqual(let_nth(plan=plan, trade=(), stock=0, number=0), run)
        self.assertEqual(let_number(plan=plan, trade=(), stock=0, run=run), 0)
        self.assertEqual(let_many(plan=plan, trade=(), stock=0), 1)
        self.assertEqual(let_every(plan=plan, trade=(), stock=0), (run,))
        for call in (lambda *told: let_nth(*told, None), lambda *told: let_number(*told, None), let_many, let_every,
                     lambda *told: joined(*told, None, 0), lambda *told: shows_joined(*told, None, 0, 0)):
            self.raises(BadTrade, [], call, plan, [], None)
            for value in plain.odd_values(plan):
                if not plain.is_int(value) or not 0 <= value <= 99999:
                    self.raises(BadStock, value, call, plan, (), value)
                if not plain.alike(value, ()) and not plain.alike(value, (("a", 1, 1),)):
                    self.raises(BadTrade, value, call, plan, value, -1)
        for value in plain.odd_values(plan, run):
            if not plain.alike(value, 0):
                self.raises(BadNumber, value, let_nth, plan, (), 0, value)
            if not plain.alike(value, run):
                self.raises(BadRun, value, let_number, plan, (), 0, value)
        self.raises(BadRun, run, let_number, plan, (("b", 1, 0),), 0, run)

    def test_stairs(self):
        rng = random.Random(202)
        for text in plain.some_texts(203, 150):
            trade = plain.any_trade(rng, "abcdefx", rng.choice([3, 8]))
            with self.subTest(text, trade=trade):
                plan = Plan(text)
                needs = sorted(plain.least(plain.steps_of(trade, run)) for run in plain.runs(text))
                wanted = tuple((need, sum(1 for one in needs if one <= need)) for need in sorted(set(needs)))
                got = let_stairs(plan, trade)
                self.assertEqual(got, wanted)
                self.assertEqual(got[0][0], first(plan, trade)[1])
                self.assertEqual(got[-1][1], many(plan))
                for stock, number in got:
                    self.assertEqual(let_many(plan, trade, stock), number)
        self.assertEqual(let_stairs(plan=Plan(WIDE), trade=()), ((0, 40320),))
        self.assertEqual(let_stairs(Plan(WIDE), tuple((task, 9999, -9999) for task in "abcdefgh")), ((79992, 40320),))
        for value in plain.odd_values(plan):
            if not plain.alike(value, ()) and not plain.alike(value, (("a", 1, 1),)):
                self.raises(BadTrade, value, let_stairs, Plan("a"), value)

    def test_backwards(self):
        """As many runs are let backwards, of one choice, from what they leave."""
        for text, trade, stock in cases(204, 60):
            plan = Plan(text)
            if plan.is_plain and let_many(plan, trade, stock) and stock < 90000:
                end = stock + plain.total(plain.steps_of(trade, plan.tasks))
                self.assertEqual(let_many(plan.turned, told_back(trade), end), let_many(plan, trade, stock))


class Joined(plain.Raises, unittest.TestCase):

    def is_right(self, runs, one, other, value):
        if type(value) is not tuple or len(value) != 2 or value[0] not in ("rows", "apart"):
            return False
        told = value[1]
        if type(told) is not tuple or not all(any(plain.alike(run, let) for let in runs) for run in told):
            return False
        if value[0] == "rows":
            if not told or told[0] != one or told[-1] != other:
                return False
            way = plain.distance(runs, one, other)
            return len(told) == way + 1 and all(plain.neighbours(a, b) for a, b in zip(told, told[1:]))
        return (list(told) == sorted(set(told)) and one in told and other not in told
                and all(run in told for run in runs for near in told if plain.neighbours(run, near)))

    def test_joined(self):
        rng = random.Random(211)
        seen = set()
        for text, trade, stock in cases(212, 60):
            runs = Told(text, trade, stock).let_runs
            if not runs:
                continue
            for one, other in [(rng.choice(runs), rng.choice(runs)) for _ in range(3)]:
                with self.subTest(text, trade=trade, stock=stock, one=one, other=other):
                    plan = Plan(text)
                    value = joined(plan, trade, stock, one, other)
                    seen.add(value[0])
                    way = plain.distance(runs, one, other)
                    self.assertEqual(value[0], "apart" if way is None else "rows")
                    self.assertTrue(self.is_right(runs, one, other, value))
                    self.assertIs(shows_joined(plan, trade, stock, one, other, value), True)
                    near = plain.near(value)
                    values = rng.sample(near, min(25, len(near))) + [("apart", tuple(runs)), ("rows", ())]
                    values += [("rows", (run,)) for run in runs[:3]] + [("apart", (run,)) for run in runs[:3]]
                    values += [("apart", tuple(run for run in runs if sorted(run) == sorted(one)))]
                    for changed in values:
                        self.assertIs(shows_joined(plan, trade, stock, one, other, changed),
                                      self.is_right(runs, one, other, changed), changed)
        self.assertEqual(seen, {"rows", "apart"})

    def test_a_way_that_is_longer_by_the_stock(self):
        """Where the shortest way between the runs of the plan is not let, another one is as short or none is there."""
        plan, trade = Plan("beside(a,b,c)"), (("a", 1, -1), ("b", 1, -1), ("c", 0, 1))
        runs = let_every(plan, trade, 1)
        for one in runs:
            for other in runs:
                value = joined(plan, trade, 1, one, other)
                self.assertTrue(self.is_right(runs, one, other, value))
        # A detour is no answer where a shorter row is let.
        self.assertIs(shows_joined(plan, (), 0, ("a", "b", "c"), ("a", "b", "c"),
                                   ("rows", (("a", "b", "c"), ("b", "a", "c"), ("a", "b", "c")))), False)
        self.assertEqual(joined(plan, (), 0, ("a", "b", "c"), ("a", "b", "c")), ("rows", (("a", "b", "c"),)))

    def test_rows_by_what_is_not_let(self):
        plan, trade = Plan("beside(a,b,c)"), (("a", 1, -1), ("b", 0, 1), ("c", 1, 0))
        abc, acb, bac, bca, cab, cba = (tuple(word) for word in ("abc", "acb", "bac", "bca", "cab", "cba"))
        self.assertEqual(let_every(plan, trade, 1), (abc, bac, bca, cab, cba))
        self.assertEqual(joined(plan, trade, 1, abc, cba), ("rows", (abc, bac, bca, cba)))
        self.assertIs(shows_joined(plan, trade, 1, abc, cba, ("rows", (abc, acb, cab, cba))), False)
        self.assertIs(shows_joined(plan, (), 1, abc, cba, ("rows", (abc, acb, cab, cba))), True)
        either = Plan("either(beside(a,b),d)")
        self.assertIs(shows_joined(either, (("a", 1, 0), ("b", 0, 1)), 0, ("b", "a"), ("d",), ("apart", (("b", "a"),))), True)
        self.assertIs(shows_joined(either, (("a", 1, 0), ("b", 0, 1)), 0, ("b", "a"), ("d",),
                                   ("apart", (("a", "b"), ("b", "a")))), False)

    def test_rows_that_go_elsewhere(self):
        plan = Plan("beside(a,b,c)")
        abc, acb, bac, bca, cba = (tuple(word) for word in ("abc", "acb", "bac", "bca", "cba"))
        self.assertIs(shows_joined(plan, (), 0, abc, bac, ("rows", (abc, bac))), True)
        for rows in ((bca, bac), (abc, acb), (abc,), (bac,), (bac, abc), (abc, abc), (abc, bac, bac)):
            self.assertIs(shows_joined(plan, (), 0, abc, bac, ("rows", rows)), False)
        self.assertIs(shows_joined(plan, (), 0, abc, cba, ("rows", (abc, bac, bca, cba))), True)
        for rows in ((abc, bac, abc, cba), (abc, cba, bca, cba), (abc, acb, bca, cba), (abc, bac, bac, cba), (abc, cba)):
            self.assertIs(shows_joined(plan, (), 0, abc, cba, ("rows", rows)), False)

    def test_apart_lots_of_runs(self):
        plan = Plan("either(beside(a,b),c,d)")
        for runs in ((("a", "b"), ("b", "a")), (("a", "b"), ("b", "a"), ("c",))):
            self.assertIs(shows_joined(plan, (), 0, ("a", "b"), ("d",), ("apart", runs)), True)
        for runs in ((("a", "b"),), (("a", "b"), ("b", "a"), ("d",)), (("c",),), (), (("b", "a"), ("a", "b"))):
            self.assertIs(shows_joined(plan, (), 0, ("a", "b"), ("d",), ("apart", runs)), False)

    def test_errors(self):
        plan, one, other = Plan("beside(a,b)"), ("a", "b"), ("b", "a")
        self.assertEqual(joined(plan=plan, trade=(), stock=0, one=one, other=other), ("rows", (one, other)))
        self.assertIs(shows_joined(plan=plan, trade=(), stock=0, one=one, other=other, value=("rows", (one, other))),
                      True)
        trade = (("a", 1, 0), ("b", 0, 1))
        for call in (joined, lambda *told: shows_joined(*told, None)):
            self.raises(BadRun, one, call, plan, trade, 0, one, None)
            self.raises(BadRun, None, call, plan, trade, 0, None, one)
            self.raises(BadRun, one, call, plan, trade, 0, other, one)
            for value in plain.odd_values(plan):
                if not plain.alike(value, one) and not plain.alike(value, other):
                    self.raises(BadRun, value, call, plan, (), 0, value, None)
                    self.raises(BadRun, value, call, plan, (), 0, one, value)
            wide = Plan("beside(either(beside(c,h),then(a,b),g),d,e,f)")
            self.raises(TooMany, 200, call, wide, (), 0, ("g", "d", "e", "f"), ("g", "d", "e", "f"))
            self.raises(BadRun, (), call, wide, (), 0, ("g", "d", "e", "f"), ())
        for value in plain.odd_values(plan):
            self.assertIs(shows_joined(plan, (), 0, one, other, value), False, value)
        full = Plan(FULL)
        runs = let_every(full, (), 0)
        self.assertIs(shows_joined(full, (), 0, runs[0], runs[-1], joined(full, (), 0, runs[0], runs[-1])), True)


if __name__ == "__main__":
    unittest.main()
