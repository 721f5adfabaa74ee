"""Point 31: lots."""

import random
import unittest

from enoughhands.errors import BadDone, BadStock, BadTrade, NoRun, NotLet
from enoughhands.lots import guide, is_closed, reached_lots, room, safe_lots, traps
from enoughhands.plans import Plan

from tests import plain


class Told:
    """What is let of a plan at a stock, by going through all beginnings."""

    def __init__(self, text, trade, stock):
        self.text, self.trade, self.stock = text, trade, stock
        self.runs, self.beginnings = plain.runs(text), plain.beginnings(text)
        self.let = [done for done in self.beginnings if plain.is_let(stock, plain.steps_of(trade, done))]
        self.let_runs = [run for run in self.runs if run in set(self.let)]
        self.lots = sorted({plain.lot(done) for done in self.beginnings})
        self.reached = sorted({plain.lot(done) for done in self.let})
        self.safe = sorted({plain.lot(run[:many]) for run in self.let_runs for many in range(len(run) + 1)})
        self.choices = {plain.lot(run) for run in self.runs}
        self.next = {lot: set() for lot in self.lots}
        for done in self.beginnings:
            if done:
                self.next[plain.lot(done[:-1])].add(done[-1])

    def level(self, lot):
        return self.stock + plain.total(plain.steps_of(self.trade, lot))

    def behind(self, lot):
        """The open tasks behind a lot."""
        return sorted(task for task in self.next[lot]
                      if plain.steps_of(self.trade, (task,))[0][0] <= self.level(lot))

    def is_closed(self, value):
        if type(value) is not tuple or not all(any(plain.alike(one, lot) for lot in self.lots) for one in value):
            return False
        return (list(value) == sorted(set(value)) and () in value
                and all(plain.lot(lot + (task,)) in value for lot in value for task in self.behind(lot)))

    def is_stuck(self, value):
        """Whether a value is closed lots without a choice."""
        return self.is_closed(value) and not self.choices & set(value)


def cases(seed, many, most=5):
    """Plans, trades, and stocks about the least one, and others."""
    rng = random.Random(seed)
    for text in plain.some_texts(seed, many, most):
        trade = plain.any_trade(rng, "abcdefgh"[:most] + "x", rng.choice([3, 6]))
        lowest = min(plain.least(plain.steps_of(trade, run)) for run in plain.runs(text))
        for stock in sorted({0, max(0, lowest - 1), lowest, lowest + rng.randint(0, 5), 99999}):
            yield text, trade, stock


class Lots(plain.Raises, unittest.TestCase):

    def test_all_lots(self):
        trapped = 0
        for text, trade, stock in cases(101, 120):
            with self.subTest(text, trade=trade, stock=stock):
                plan, told = Plan(text), Told(text, trade, stock)
                self.assertEqual(reached_lots(plan, trade, stock), tuple(told.reached))
                self.assertEqual(safe_lots(plan, trade, stock), tuple(told.safe))
                wanted = tuple((lot, tuple(task for task in told.behind(lot) if plain.lot(lot + (task,)) in told.safe))
                               for lot in told.safe)
                self.assertEqual(guide(plan, trade, stock), wanted)
                wanted = tuple((lot, task) for lot in told.safe for task in told.behind(lot)
                               if plain.lot(lot + (task,)) not in told.safe)
                self.assertEqual(traps(plan, trade, stock), wanted)
                trapped += bool(wanted)
        self.assertGreater(trapped, 20)

    def test_guide_leads_through(self):
        """Just the let runs go by the guide, from () to a lot with nothing behind it."""
        for text, trade, stock in cases(102, 60):
            table = dict(guide(Plan(text), trade, stock))
            found, waiting = [], [()] if table else []
            while waiting:
                done = waiting.pop()
                now = table[plain.lot(done)]
                found += [] if now else [done]
                waiting += [done + (task,) for task in now]
            self.assertEqual(sorted(found), Told(text, trade, stock).let_runs)

    def test_eight_tasks(self):
        plan = Plan("beside(a,b,c,d,e,f,g,h)")
        greedy = tuple((task, 1, -1) for task in "abcdefgh")
        self.assertEqual(len(reached_lots(plan, greedy, 8)), 256)
        self.assertEqual(len(reached_lots(plan, greedy, 4)), 163)
        self.assertEqual(safe_lots(plan, greedy, 7), ())
        self.assertEqual(len(guide(plan, greedy, 8)), 256)
        self.assertEqual(traps(plan, greedy, 7), ())
        self.assertEqual(room(plan, greedy, 9, tuple("abcdefg")), 1)

    def test_empty_trade(self):
        plan = Plan("then(a,either(b,c))")
        every = ((), ("a",), ("a", "b"), ("a", "c"))
        for trade in ((), (("z", 9, 9),)):
            self.assertEqual(reached_lots(plan=plan, trade=trade, stock=0), every)
            self.assertEqual(safe_lots(plan=plan, trade=trade, stock=0), every)
            self.assertEqual(traps(plan=plan, trade=trade, stock=0), ())
            self.assertEqual(guide(plan=plan, trade=trade, stock=0),
                             (((), ("a",)), (("a",), ("b", "c")), (("a", "b"), ()), (("a", "c"), ())))
        self.assertEqual(guide(plan, (("a", 1, 0),), 0), ())

    def test_errors(self):
        plan = Plan("a")
        calls = (reached_lots, safe_lots, guide, traps, lambda *told: room(*told, None),
                 lambda *told: is_closed(*told, None))
        for call in calls:
            self.raises(BadTrade, None, call, plan, None, None)
            for value in plain.odd_values(plan):
                if type(value) is not int or not 0 <= value <= 99999:
                    self.raises(BadStock, value, call, plan, (), value)
                if not (type(value) is tuple and value == ()) and not plain.alike(value, (("a", 1, 1),)):
                    self.raises(BadTrade, value, call, plan, value, -1)


class Closed(plain.Raises, unittest.TestCase):

    def test_is_closed(self):
        rng = random.Random(103)
        right = 0
        for text, trade, stock in cases(104, 60, 4):
            plan, told = Plan(text), Told(text, trade, stock)
            values = [tuple(told.reached), tuple(told.safe), tuple(told.lots), ((),), ()]
            for _ in range(8):
                values.append(tuple(lot for lot in told.lots if lot in told.reached or rng.random() < 0.3))
                values.append(tuple(lot for lot in told.lots if rng.random() < 0.8))
            values += rng.sample(plain.near(values[0]), min(30, len(plain.near(values[0]))))
            for value in values:
                with self.subTest(text, trade=trade, stock=stock, value=value):
                    self.assertIs(is_closed(plan, trade, stock, value), told.is_closed(value))
                    right += told.is_closed(value)
        self.assertGreater(right, 300)

    def test_levels_below_0(self):
        """Behind a lot with a level below 0 nothing is open, not even what needs nothing."""
        plan = Plan("beside(a,b)")
        trade = (("a", 5, -5),)
        self.assertIs(is_closed(plan, trade, 0, ((), ("a",), ("b",))), True)
        self.assertIs(is_closed(plan, trade, 5, ((), ("a",), ("b",))), False)
        self.assertIs(is_closed(plan, trade, 0, ((), ("b",))), True)
        self.assertIs(is_closed(plan, trade, 5, ((), ("a",), ("a", "b"), ("b",))), True)

    def test_other_values(self):
        plan = Plan("then(a,b)")
        trade = (("a", 1, 0),)
        for value in plain.odd_values(plan):
            self.assertIs(is_closed(plan, trade, 0, value), plain.alike(value, ((),)) or
                          plain.alike(value, ((), ("a",))), value)
        for value in (((), ("b",)), ((), ("a",), ("a",)), (("a",), ()), [()], ((), ["a"]), ((), ("b", "a")),
                      ((), "a"), ((), ("a", "b", "c")), ("", ()), ((), None)):
            self.assertIs(is_closed(plan, trade, 0, value), False)
        self.assertIs(is_closed(plan=plan, trade=trade, stock=0, value=((),)), True)
        self.assertIs(is_closed(plan, trade, 0, ((), ("a", "b"))), True)
        self.assertIs(is_closed(plan, trade, 0, ((), ("a",))), False)


class Room(plain.Raises, unittest.TestCase):

    def test_room(self):
        raised = set()
        for text, trade, stock in cases(105, 70, 4):
            plan, told = Plan(text), Told(text, trade, stock)
            for done in told.beginnings:
                with self.subTest(text, trade=trade, stock=stock, done=done):
                    raised.add(self.check(plan, told, done))
        self.assertEqual(raised, {"NotLet", "NoRun", "room", "nothing left"})

    def check(self, plan, told, done):
        steps = plain.steps_of(told.trade, done)
        if done not in told.let:
            number = next(at for at in range(len(done)) if not plain.is_let(told.stock, steps[:at + 1]))
            self.raises(NotLet, number, room, plan, told.trade, told.stock, done)
            return "NotLet"
        level = plain.level_behind(told.stock, steps)
        if plain.lot(done) not in told.safe:
            with self.assertRaises(NoRun) as caught:
                room(plan, told.trade, told.stock, done)
            rest = Told(plain.rest_text(told.text, done), told.trade, level)
            self.assertTrue(rest.is_stuck(caught.exception.value))
            return "NoRun"
        if done in told.runs:
            self.assertEqual(room(plan, told.trade, told.stock, done), level)
            return "nothing left"
        later = [run[len(done):] for run in told.runs if run[:len(done)] == done]
        lowest = min(plain.least(plain.steps_of(told.trade, rest)) for rest in later)
        self.assertEqual(room(plan, told.trade, told.stock, done), level - lowest)
        return "room"

    def test_errors(self):
        plan = Plan("then(a,b,c)")
        trade = (("a", 0, 0), ("b", 4, -4), ("c", 3, 0))
        for value in plain.odd_values(plan) + [("b",), ("a", "c"), ["a"], ("a", "b", "c", "c")]:
            if not any(plain.alike(value, tuple("abc"[:many])) for many in range(4)):
                self.raises(BadDone, value, room, plan, trade, 9, value)
        self.raises(NotLet, 1, room, plan, trade, 3, ("a", "b"))
        self.raises(NotLet, 1, room, plan, trade, 3, ("a", "b", "c"))
        self.raises(NotLet, 2, room, plan, trade, 6, ("a", "b", "c"))
        self.raises(NoRun, ((), ("a",)), room, plan, trade, 3, ())
        self.raises(NoRun, ((),), room, plan, trade, 6, ("a", "b"))
        self.assertEqual(room(plan=plan, trade=trade, stock=7, done=("a", "b")), 0)
        self.assertEqual(room(plan, trade, 99999, ("a", "b", "c")), 99995)
        rich = (("a", 0, 9999), ("b", 9999, 0))
        self.assertEqual(room(Plan("then(a,b)"), rich, 99999, ("a",)), 99999)
        poor = tuple((task, 0, 9999) if task < "h" else (task, 9999, -9999) for task in "abcdefgh")
        self.assertEqual(room(Plan("then(a,b,c,d,e,f,g,h)"), poor, 99999, tuple("abcdefg")), 99999 + 6 * 9999)


if __name__ == "__main__":
    unittest.main()
