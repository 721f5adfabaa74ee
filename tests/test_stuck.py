"""Point 32: stuck or not."""

import random
import unittest

from enoughhands.errors import BadStock, BadTrade, NoRun
from enoughhands.plans import Plan
from enoughhands.stuck import can, forced, never, shows_can, shows_never, sure_stocks
from enoughhands.trades import told_back

from tests import plain
from tests.test_lots import Told, cases


class Can(plain.Raises, unittest.TestCase):

    def is_right(self, told, value):
        if type(value) is not tuple or len(value) != 2 or type(value[0]) is not str:
            return False
        if value[0] == "run":
            return any(plain.alike(value[1], run) for run in told.let_runs)
        return value[0] == "stuck" and told.is_stuck(value[1])

    def test_can(self):
        rng = random.Random(111)
        seen = set()
        for text, trade, stock in cases(112, 100, 4):
            with self.subTest(text, trade=trade, stock=stock):
                plan, told = Plan(text), Told(text, trade, stock)
                value = can(plan, trade, stock)
                seen.add(value[0])
                self.assertEqual(value[0], "run" if told.let_runs else "stuck")
                self.assertTrue(self.is_right(told, value))
                self.assertIs(shows_can(plan, trade, stock, value), True)
                near = plain.near(value)
                values = rng.sample(near, min(40, len(near))) + [("stuck", tuple(told.reached))]
                values += [("run", run) for run in told.runs[:10]] + [("run", run) for run in told.let[:10]]
                values += [("stuck", tuple(lot for lot in told.lots if rng.random() < 0.7)) for _ in range(5)]
                for changed in values:
                    self.assertIs(shows_can(plan, trade, stock, changed), self.is_right(told, changed), changed)
        self.assertEqual(seen, {"run", "stuck"})

    def test_closed_lots_that_are_not_reached(self):
        plan = Plan("either(then(a,b),then(c,d))")
        trade = (("a", 1, 0), ("b", 5, 0), ("c", 9, 0), ("d", 9, 0))
        for lots in (((), ("a",)), ((), ("a",), ("c",))):
            self.assertIs(shows_can(plan, trade, 1, ("stuck", lots)), True)
        for lots in (((),), ((), ("a",), ("a", "b")), (("a",),), ((), ("a",), ("d",)), ((), ("c",))):
            self.assertIs(shows_can(plan, trade, 1, ("stuck", lots)), False)
        self.assertIs(shows_can(plan, trade, 9, ("run", ("c", "d"))), True)
        self.assertIs(shows_can(plan, trade, 8, ("run", ("c", "d"))), False)

    def test_backwards(self):
        """What can be done can be done backwards, from what it leaves."""
        for text, trade, stock in cases(113, 60, 4):
            value = can(Plan(text), trade, stock)
            if value[0] == "run" and stock < 90000:
                end = stock + plain.total(plain.steps_of(trade, value[1]))
                self.assertIs(shows_can(Plan(text).turned, told_back(trade), end, ("run", value[1][::-1])), True)

    def test_other_values(self):
        plan = Plan("then(a,b)")
        for value in plain.odd_values(plan):
            self.assertIs(shows_can(plan, (), 0, value), False, value)
            self.assertIs(shows_can(plan, (("a", 1, 0),), 0, value), plain.alike(value, ("stuck", ((),))), value)
        self.assertEqual(can(plan=plan, trade=(), stock=0), ("run", ("a", "b")))
        self.assertIs(shows_can(plan=plan, trade=(), stock=0, value=("run", ("a", "b"))), True)


class Never(plain.Raises, unittest.TestCase):

    def stuck(self, told):
        """The let beginnings that are stuck."""
        longer = {done[:-1] for done in told.let if done}
        return [done for done in told.let if done not in told.runs and done not in longer]

    def test_never(self):
        seen = set()
        for text, trade, stock in cases(114, 120):
            with self.subTest(text, trade=trade, stock=stock):
                plan, told = Plan(text), Told(text, trade, stock)
                stuck = self.stuck(told)
                value = never(plan, trade, stock)
                seen.add(value[0])
                if stuck:
                    self.assertTrue(value[0] == "stuck" and value[1] in stuck and len(value) == 2)
                else:
                    self.assertEqual(value, ("never",))
                self.assertIs(shows_never(plan, trade, stock, value), True)
                self.assertIs(shows_never(plan, trade, stock, ("never",)), not stuck)
                for done in told.beginnings[:40]:
                    self.assertIs(shows_never(plan, trade, stock, ("stuck", done)), done in stuck)
                for changed in plain.near(value):
                    wanted = plain.alike(changed, ("never",)) and not stuck or any(
                        plain.alike(changed, ("stuck", done)) for done in stuck)
                    self.assertIs(shows_never(plan, trade, stock, changed), wanted, changed)
        self.assertEqual(seen, {"never", "stuck"})

    def test_edges(self):
        plan = Plan("a")
        trade = (("a", 1, 0),)
        self.assertEqual(never(plan, trade, 0), ("stuck", ()))
        self.assertEqual(never(plan, trade, 1), ("never",))
        self.assertEqual(never(plan=plan, trade=(), stock=99999), ("never",))
        self.assertIs(shows_never(plan=plan, trade=trade, stock=0, value=("stuck", ())), True)
        self.assertIs(shows_never(plan, trade, 1, ("stuck", ("a",))), False)
        for value in plain.odd_values(plan):
            self.assertIs(shows_never(plan, trade, 0, value), plain.alike(value, ("stuck", ())), value)
            self.assertIs(shows_never(plan, trade, 1, value), plain.alike(value, ("never",)), value)

    def test_sure_stocks(self):
        rng = random.Random(115)
        shapes = set()
        for text in plain.some_texts(116, 120, 5):
            trade = plain.any_trade(rng, "abcdex", rng.choice([3, 8]))
            with self.subTest(text, trade=trade):
                sure = [stock for stock in range(60) if not self.stuck(Told(text, trade, stock))]
                wanted = []
                for stock in sure:
                    if wanted and wanted[-1][1] == stock - 1:
                        wanted[-1] = (wanted[-1][0], stock)
                    else:
                        wanted.append((stock, stock))
                wanted[-1] = (wanted[-1][0], None)
                got = sure_stocks(Plan(text), trade)
                self.assertEqual(got, tuple(wanted))
                shapes.add(len(got))
        self.assertGreater(len(shapes), 1)

    def test_sure_stocks_at_the_ends(self):
        self.assertEqual(sure_stocks(Plan("a"), ()), ((0, None),))
        self.assertEqual(sure_stocks(plan=Plan("a"), trade=(("a", 9999, 0),)), ((9999, None),))
        greedy = tuple((task, 9999, -9999) for task in "abcdefgh")
        self.assertEqual(sure_stocks(Plan("beside(a,b,c,d,e,f,g,h)"), greedy), ((79992, None),))
        # Only with 5 to 8 one can begin b, and never end it.
        self.assertEqual(sure_stocks(Plan("either(a,then(b,c))"), (("a", 2, 0), ("b", 5, 0), ("c", 9, 0))),
                         ((2, 4), (9, None)))
        self.raises(BadTrade, None, sure_stocks, Plan("a"), None)
        for value in plain.odd_values():
            if not plain.alike(value, ()) and not plain.alike(value, (("a", 1, 1),)):
                self.raises(BadTrade, value, sure_stocks, Plan("a"), value)


class Forced(plain.Raises, unittest.TestCase):

    def test_forced(self):
        none = 0
        for text, trade, stock in cases(117, 120):
            with self.subTest(text, trade=trade, stock=stock):
                plan, told = Plan(text), Told(text, trade, stock)
                if not told.let_runs:
                    none += 1
                    with self.assertRaises(NoRun) as caught:
                        forced(plan, trade, stock)
                    self.assertTrue(told.is_stuck(caught.exception.value))
                    self.assertIs(shows_can(plan, trade, stock, ("stuck", caught.exception.value)), True)
                    continue
                wanted = []
                for one in sorted(plan.tasks):
                    for other in sorted(plan.tasks):
                        runs = [run for run in told.let_runs if one in run and other in run]
                        if one != other and runs and all(run.index(one) < run.index(other) for run in runs):
                            wanted.append((one, other))
                self.assertEqual(forced(plan, trade, stock), tuple(wanted))
        self.assertGreater(none, 20)

    def test_edges_and_errors(self):
        self.assertEqual(forced(plan=Plan("a"), trade=(), stock=0), ())
        self.assertEqual(forced(Plan("either(a,b)"), (), 0), ())
        plan = Plan("beside(a,b)")
        self.assertEqual(forced(plan, (("a", 1, 0), ("b", 0, 1)), 0), (("b", "a"),))
        self.assertEqual(forced(plan, (("a", 1, 0), ("b", 0, 1)), 1), ())
        self.raises(NoRun, ((),), forced, Plan("a"), (("a", 1, 0),), 0)
        for call in (can, never, forced, lambda *told: shows_can(*told, None), lambda *told: shows_never(*told, None)):
            self.raises(BadTrade, None, call, plan, None, None)
            self.raises(BadTrade, [], call, plan, [], -1)
            for value in plain.odd_values(plan):
                if type(value) is not int or not 0 <= value <= 99999:
                    self.raises(BadStock, value, call, plan, (), value)

    def test_names(self):
        """Other names, and parts in another sequence: the same is told by these."""
        names = dict(zip("abcd", "zyxw"))
        one, other = Plan("beside(then(a,either(b,c)),d)"), Plan("beside(w,then(z,either(x,y)))")
        trade = (("a", 2, 1), ("b", 3, -1), ("c", 4, 2), ("d", 4, -4))
        renamed = tuple(sorted((names[task], need, net) for task, need, net in trade))
        for stock in range(12):
            self.assertEqual(never(one, trade, stock)[0], never(other, renamed, stock)[0])
            self.assertEqual(can(one, trade, stock)[0], can(other, renamed, stock)[0])
            if can(one, trade, stock)[0] == "run":
                self.assertEqual(sorted((names[a], names[b]) for a, b in forced(one, trade, stock)),
                                 list(forced(other, renamed, stock)))
        self.assertEqual(sure_stocks(one, trade), sure_stocks(other, renamed))


if __name__ == "__main__":
    unittest.main()
