"""Point 23: first stock and rows."""

import itertools
import random
import unittest

from enoughhands.errors import BadRow, BadStock, BadSteps, BadTrade, NotEnough, NotPlain
from enoughhands.plans import Plan
from enoughhands.rows import back, best, first, plain_steps, row, row_of, shows_best, shows_first, spare
from enoughhands.trades import told_back

from tests import plain


def plans_and_trades(seed, many, most=5, kinds=plain.KINDS):
    rng = random.Random(seed)
    for text in plain.some_texts(seed, many, most, kinds):
        yield text, plain.any_trade(rng, list("abcdefgh"[:most]) + ["other"])


def least_stock(text, trade):
    return min(plain.least(plain.steps_of(trade, run)) for run in plain.runs(text))


def is_row(value):
    """Whether a value is a row, told at length."""
    if type(value) is not tuple or [type(part) for part in value] != [int, int, tuple, tuple]:
        return False
    lowest, net, ahead, behind = value
    if not plain.is_stairs(ahead) or not plain.is_stairs(behind):
        return False
    top, gain = ahead[-1] if ahead else (0, 0)
    end, lost = behind[-1] if behind else (0, 0)
    return net == gain - lost and lowest >= top and lowest + net >= end


def some_rows(seed, many):
    """Any rows, with a first of their own."""
    rng = random.Random(seed)
    for _ in range(many):
        sides = []
        for _ in range(2):
            size = rng.randint(0, 3)
            sides.append(tuple(zip(sorted(rng.sample(range(7), size)), sorted(rng.sample(range(1, 8), size)))))
        ahead, behind = sides
        net = (ahead[-1][1] if ahead else 0) - (behind[-1][1] if behind else 0)
        lowest = max(ahead[-1][0] if ahead else 0, (behind[-1][0] if behind else 0) - net)
        yield (lowest + rng.choice([0, 0, 1, 4]), net, ahead, behind)


class First(plain.Raises, unittest.TestCase):

    def test_first(self):
        for text, trade in plans_and_trades(71, 150):
            with self.subTest(text, trade=trade):
                plan, runs = Plan(text), plain.runs(text)
                wanted = least_stock(text, trade)
                value = first(plan, trade)
                self.assertEqual(value[:2], ("first", wanted))
                self.assertEqual(len(value), 3)
                self.assertTrue(value[2] in runs and plain.is_let(wanted, plain.steps_of(trade, value[2])))
                self.assertEqual(first(plan.turned, told_back(trade))[1], min(
                    plain.least(plain.back(plain.steps_of(trade, run))) for run in runs))
                for run in runs[:30]:
                    for stock in (wanted - 1, wanted, wanted + 1):
                        self.assertIs(shows_first(plan, trade, ("first", stock, run)),
                                      stock == wanted and plain.is_let(stock, plain.steps_of(trade, run)))
                for changed in plain.near(value):
                    self.assertIs(shows_first(plan, trade, changed), self.right(runs, trade, wanted, changed), changed)

    def right(self, runs, trade, wanted, value):
        if type(value) is not tuple or len(value) != 3 or not plain.alike(value[:2], ("first", wanted)):
            return False
        return any(plain.alike(value[2], run) for run in runs) and plain.is_let(
            wanted, plain.steps_of(trade, value[2]))

    def test_edges(self):
        self.assertEqual(first(Plan("a"), ()), ("first", 0, ("a",)))
        self.assertEqual(first(Plan("either(a,b)"), (("a", 9999, 0), ("b", 9998, 0))), ("first", 9998, ("b",)))
        self.assertEqual(first(plan=Plan("then(a,b)"), trade=(("c", 5, 5),)), ("first", 0, ("a", "b")))
        greedy = tuple((task, 9999, -9999) for task in "abcdefgh")
        self.assertEqual(first(Plan("beside(a,b,c,d,e,f,g,h)"), greedy)[1], 8 * 9999)
        self.assertIs(shows_first(plan=Plan("a"), trade=(), value=("first", 0, ("a",))), True)
        self.assertIs(shows_first(Plan("a"), (), ("first", False, ("a",))), False)

    def test_other_values(self):
        plan = Plan("beside(a,b)")
        for value in plain.odd_values(plan):
            self.assertIs(shows_first(plan, (), value), False)
            if not (type(value) is tuple and value == ()):
                if value not in ((("a", 1, 1),),) or not plain.alike(value, (("a", 1, 1),)):
                    self.raises(BadTrade, value, first, plan, value)
                    self.raises(BadTrade, value, shows_first, plan, value, None)


class Spare(plain.Raises, unittest.TestCase):

    def test_spare(self):
        for text, trade in plans_and_trades(72, 120):
            plan, lowest = Plan(text), least_stock(text, trade)
            for stock in (lowest, lowest + 1, lowest + 4):
                with self.subTest(text, trade=trade, stock=stock):
                    self.assertEqual(spare(plan, trade, stock),
                                     tuple((task, self.more(text, trade, stock, task)) for task in plan.tasks))
            if lowest > 0:
                self.raises(NotEnough, lowest, spare, plan, trade, lowest - 1)
                self.raises(NotEnough, lowest, spare, plan, trade, 0)

    def more(self, text, trade, stock, task):
        """The greatest further need at which some run is let, tried one by one."""
        runs = plain.runs(text)
        if any(task not in run and plain.is_let(stock, plain.steps_of(trade, run)) for run in runs):
            return None
        table = {name: (need, net) for name, need, net in trade}
        for more in itertools.count():
            need, net = table.get(task, (0, 0))
            changed = {**table, task: (need + more + 1, net)}
            if not any(plain.is_let(stock, [changed.get(name, (0, 0)) for name in run]) for run in runs):
                return more

    def test_edges_and_errors(self):
        plan = Plan("either(a,b)")
        trade = (("a", 5, 0), ("b", 6, 0))
        self.assertEqual(spare(plan, trade, 5), (("a", 0), ("b", None)))
        self.assertEqual(spare(plan, trade, 6), (("a", None), ("b", None)))
        self.assertEqual(spare(Plan("a"), (), 99999), (("a", 99999),))
        self.assertEqual(spare(plan=Plan("then(a,b)"), trade=(("a", 0, 9999),), stock=99999),
                         (("a", 99999), ("b", 109998)))
        self.assertEqual(spare(Plan("a"), (), 0), (("a", 0),))
        self.raises(BadTrade, None, spare, plan, None, None)
        for value in plain.odd_values(plan):
            if not (type(value) is int and 0 <= value <= 99999):
                self.raises(BadStock, value, spare, plan, trade, value)
        self.raises(NotEnough, 5, spare, plan, trade, 4)


class Rows(plain.Raises, unittest.TestCase):

    def test_row_of(self):
        rng = random.Random(73)
        for _ in range(300):
            steps = plain.any_steps(rng, rng.randint(0, 6))
            told = row_of(steps)
            self.assertEqual(told, plain.row(steps))
            self.assertTrue(is_row(told))
            self.assertEqual(back(told), plain.row(plain.back(steps)))
            self.assertEqual(back(back(told)), told)
        for value in (None, [], ((1,),), ((True, 0),), ((0, -1),), 5, "a"):
            self.raises(BadSteps, value, row_of, value)
        self.assertEqual(row_of(steps=()), (0, 0, (), ()))

    def test_plain_steps(self):
        for told in list(some_rows(74, 400)) + [(0, 0, (), ()), (5, 0, (), ()), (5, -5, (), ((0, 5),))]:
            steps = plain_steps(told)
            self.assertEqual(row_of(steps), told)
            self.assertEqual(plain.row(steps), told)
            lowest, net, ahead, behind = told
            top, gain = ahead[-1] if ahead else (0, 0)
            end = behind[-1][0] if behind else 0
            wanted, known = [], 0
            for base, grown in ahead:
                wanted.append((base + known, grown - known))
                known = grown
            if lowest > max(0, top) and lowest + net > max(0, end):
                wanted.append((lowest + gain, 0))
            down, known = [], 0
            for base, grown in behind:
                down.append((base + known, grown - known))
                known = grown
            self.assertEqual(steps, tuple(wanted) + plain.back(down))

    def test_fewest(self):
        """No steps of the same row are fewer."""
        kinds = [(need, after - need) for need in range(4) for after in range(4)]
        for many in range(4):
            for steps in itertools.product(kinds, repeat=many):
                told = row_of(steps)
                self.assertLessEqual(len(plain_steps(told)), many)

    def test_no_rows(self):
        good = [(3, 1, ((2, 3), (3, 4)), ((0, 3),)), (0, 0, (), ()), (7, 0, (), ()), (4, -1, ((0, 3),), ((2, 3), (3, 4)))]
        bad = [(2, 1, ((2, 3), (3, 4)), ((0, 3),)), (3, 2, ((2, 3), (3, 4)), ((0, 3),)), (-1, 0, (), ()), (0, 1, (), ()),
               (0, -1, (), ((0, 1),)), (5, 0, [], ()), [5, 0, (), ()], (True, 0, (), ()), (5, False, (), ()), (5, 0, ()),
               (5, 0, (), (), ()), (5, 0, None, ()), (5, 1, ((0, True),), ()), (3, 3, ((0, 1), (0, 3)), ()),
               (3, 3, ((1, 3), (0, 4)), ())]
        for value in bad + plain.odd_values(Plan("a")) + [near for told in good for near in plain.near(told)]:
            if is_row(value):
                self.assertEqual(back(value), (value[0] + value[1], -value[1], value[3], value[2]))
            else:
                self.raises(BadRow, value, back, value)
                self.raises(BadRow, value, plain_steps, value)
        self.assertEqual(back(row=(7, 0, (), ())), (7, 0, (), ()))
        self.assertEqual(plain_steps(row=(7, 0, (), ())), ((7, 0),))
        self.assertEqual(plain_steps((0, 0, (), ())), ())


class Best(plain.Raises, unittest.TestCase):

    def test_best(self):
        for text, trade in plans_and_trades(75, 70, 5, ("then", "beside")):
            with self.subTest(text, trade=trade):
                plan, runs = Plan(text), plain.runs(text)
                rows = {run: plain.row(plain.steps_of(trade, run)) for run in runs}
                unlike = list(set(rows.values()))
                good = [run for run in runs if all(plain.no_worse(rows[run], other) for other in unlike)]
                self.assertTrue(good)
                self.assertEqual({rows[run] for run in good}, {row(plan, trade)})
                value = best(plan, trade)
                self.assertIn(value, good)
                for run in runs:
                    self.assertIs(shows_best(plan, trade, run), run in good)
                for changed in plain.near(value):
                    self.assertIs(shows_best(plan, trade, changed),
                                  any(plain.alike(changed, run) for run in good), changed)
                self.assertEqual(row(plan.turned, told_back(trade)), back(row(plan, trade)))

    def test_more_tasks(self):
        """With six to eight tasks: first is what the least stock is, and nothing is better."""
        rng = random.Random(76)
        for _ in range(40):
            names = "abcdefgh"[:rng.randint(6, 8)]
            plan = Plan(plain.any_text(rng, names, ("then", "beside")))
            trade = plain.any_trade(rng, names)
            value, told = best(plan, trade), row(plan, trade)
            self.assertEqual(told[0], first(plan, trade)[1])
            self.assertEqual(row_of(plain.steps_of(trade, value)), told)
            self.assertIs(shows_best(plan, trade, value), True)
            for _ in range(30):
                done = ()
                while plan.next(done):
                    done += (rng.choice(plan.next(done)),)
                self.assertTrue(plain.no_worse(told, row_of(plain.steps_of(trade, done))))

    def test_errors(self):
        wide = Plan("then(a,either(b,c,d))")
        for call in (row, best, lambda plan, trade: shows_best(plan, trade, None)):
            self.raises(NotPlain, 3, call, wide, ())
            self.raises(BadTrade, None, call, wide, None)
            self.raises(BadTrade, [], call, Plan("a"), [])
        self.raises(NotPlain, 8, row, plan=Plan("either(a,b,c,d,e,f,g,h)"), trade=())
        self.assertEqual(row(plan=Plan("a"), trade=(("a", 3, 1),)), (3, 1, ((3, 1),), ()))
        self.assertEqual(best(plan=Plan("a"), trade=()), ("a",))
        self.assertIs(shows_best(plan=Plan("a"), trade=(), value=("a",)), True)

    def test_other_values(self):
        plan = Plan("then(a,b)")
        for value in plain.odd_values(plan):
            self.assertIs(shows_best(plan, (), value), plain.alike(value, ("a", "b")), value)


if __name__ == "__main__":
    unittest.main()
