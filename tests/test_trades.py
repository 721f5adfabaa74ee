"""Point 21: trades, and point 3 (b), backwards."""

import random
import unittest

from enoughhands.errors import BadStock, BadTasks, BadTrade
from enoughhands.plans import Plan
from enoughhands.trades import least, levels, net, told_back

from tests import plain

GOOD = [
    (), (("a", 0, 0),), (("a", 9999, 0),), (("a", 9999, -9999),), (("a", 0, 9999),), (("then", 1, 1),),
    (("a", 3, -3), ("either", 2, 5), ("zzzzzzzz", 0, 1)),
    tuple((sign, 1, 1) for sign in "abcdefghijklmnop"),
]
BAD = [
    (("a", 10000, 0),), (("a", 10000, -1),), (("a", -1, 1),), (("a", 0, -1),), (("a", 5, -6),), (("a", 1, 9999),),
    (("a", 9999, 1),), (("b", 0, 0), ("a", 0, 0)), (("a", 0, 0), ("a", 1, 0)), (("a", 0, 0), ("a", 0, 0)),
    [("a", 0, 0)], (["a", 0, 0],), (("a", True, 0),), (("a", 0, False),), (("a", 0),), (("a", 0, 0, 0),),
    (("A", 0, 0),), (("abcdefghi", 0, 0),), (("", 0, 0),), ((1, 0, 0),), ((None, 0, 0),), (("a", "0", 0),),
    (("a", 0, None),), ("a", 0, 0), (("a", 0, 0), None), tuple((sign, 1, 1) for sign in "abcdefghijklmnopq"),
    {"a": (0, 0)}, (("a", (0,), 0),),
]


def three(call):
    """The function with only the trade left to be told."""
    return {levels: lambda trade: levels(trade, None, None), least: lambda trade: least(trade, None),
            net: lambda trade: net(trade, None), told_back: told_back}[call]


class Trades(plain.Raises, unittest.TestCase):

    def test_no_trades(self):
        values = BAD + plain.odd_values(Plan("a")) + plain.near((("a", 2, 1), ("b", 0, 1)))
        for value in values:
            for call in (levels, least, net, told_back):
                if not self.is_trade(value):
                    self.raises(BadTrade, value, three(call), value)
        for value in GOOD:
            self.assertEqual(net(value, ()), 0)
            self.assertEqual(levels(value, 0, ()), (0,))

    def is_trade(self, value):
        """Whether a value is a trade, told at length."""
        if type(value) is not tuple or len(value) > 16:
            return False
        for line in value:
            if type(line) is not tuple or [type(part) for part in line] != [str, int, int]:
                return False
            task, need, gain = line
            if not (task.isalpha() and task.islower() and task.isascii() and len(task) <= 8):
                return False
            if need not in range(10000) or need + gain not in range(10000):
                return False
        names = [line[0] for line in value]
        return names == sorted(set(names))

    def test_stocks(self):
        trade = (("a", 1, 1),)
        for value in plain.odd_values() + [-1, 100000, 10 ** 8, "5"]:
            if type(value) is int and 0 <= value <= 99999:
                self.assertEqual(levels(trade, value, ()), (value,))
            else:
                self.raises(BadStock, value, levels, trade, value, ())
                self.raises(BadStock, value, levels, trade, value, None)
        self.assertEqual(levels(trade, 99999, ("a", "b")), (99999, 100000, 100000))

    def test_tasks(self):
        trade = (("a", 1, 1),)
        bad = [("a", "a"), ("a", "b", "a"), ["a"], "a", ("A",), ("abcdefghi",), ("",), (1,), (None,), None, {"a": 1},
               ("a", True), (("a",),), ("a b",), Plan("a"), (Plan("a"),)]
        for value in bad:
            self.raises(BadTasks, value, levels, trade, 5, value)
            self.raises(BadTasks, value, least, trade, value)
            self.raises(BadTasks, value, net, trade, value)
        many = tuple(one + other for one in "abcdefgh" for other in "abcdefgh")
        self.assertEqual(levels(trade, 5, many), (5,) * 65)
        self.assertEqual(least(trade, ("then", "a", "either")), 1)
        self.assertEqual(net(trade, ("then", "a", "either")), 1)

    def test_sequence_of_errors(self):
        self.raises(BadTrade, None, levels, None, None, None)
        self.raises(BadStock, None, levels, (), None, None)
        self.raises(BadTasks, None, levels, (), 0, None)
        self.raises(BadTrade, 1, least, 1, 1)
        self.raises(BadTrade, 1, net, 1, 1)
        self.raises(BadTasks, 1, least, trade=(), tasks=1)

    def test_against_plain_steps(self):
        rng = random.Random(51)
        for _ in range(400):
            names = "abcdef"
            trade = plain.any_trade(rng, names + "xyz")
            tasks = tuple(rng.sample(names, rng.randint(0, 6)))
            steps = plain.steps_of(trade, tasks)
            self.assertEqual(least(trade, tasks), plain.least(steps))
            self.assertEqual(net(trade, tasks), plain.total(steps))
            for stock in (0, 1, 3, 6, plain.least(steps), max(0, plain.least(steps) - 1), 99999):
                wanted = [stock]
                for need, gain in steps:
                    if wanted[-1] < need:
                        break
                    wanted.append(wanted[-1] + gain)
                self.assertEqual(levels(trade, stock, tasks), tuple(wanted))

    def test_backwards(self):
        """A run is let just if it is let backwards from what it leaves, by the trade told back."""
        rng = random.Random(52)
        for _ in range(300):
            trade = plain.any_trade(rng, "abcdef")
            back = told_back(trade)
            self.assertEqual(back, tuple((task, need + gain, -gain) for task, need, gain in trade))
            self.assertEqual(told_back(back), trade)
            tasks = tuple(rng.sample("abcdef", rng.randint(0, 6)))
            for stock in range(12):
                end = stock + net(trade, tasks)
                lets = len(levels(trade, stock, tasks)) == len(tasks) + 1
                lets_back = end >= 0 and len(levels(back, end, tasks[::-1])) == len(tasks) + 1
                self.assertEqual(lets, lets_back)
                if lets:
                    self.assertEqual(levels(back, end, tasks[::-1]), levels(trade, stock, tasks)[::-1])

    def test_by_name(self):
        trade = (("a", 9999, -9999), ("b", 0, 9999))
        self.assertEqual(levels(trade=trade, stock=9999, tasks=("a", "b")), (9999, 0, 9999))
        self.assertEqual(least(trade=trade, tasks=("b", "a")), 0)
        self.assertEqual(net(trade=trade, tasks=("a",)), -9999)
        self.assertEqual(told_back(trade=trade), (("a", 0, 9999), ("b", 9999, -9999)))


if __name__ == "__main__":
    unittest.main()
