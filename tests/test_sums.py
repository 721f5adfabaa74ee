"""Point 24: sums of rows."""

import itertools
import random
import unittest

from enoughhands.errors import BadRow, BadRows, NotPlain
from enoughhands.plans import Plan
from enoughhands.rows import back, row, row_of
from enoughhands.sums import beside_row, row_by, then_row

from tests import plain
from tests.test_rows import is_row, some_rows


def best_row(all_steps):
    """The row that is no worse than that of any of these steps."""
    rows = list({plain.row(steps) for steps in all_steps})
    return next(one for one in rows if all(plain.no_worse(one, other) for other in rows))


def then_told(one, other):
    """The row then, as the document tells it in brackets."""
    def ahead(one, other):
        points = []
        for base in range(40):
            gain = plain.tells(one[2], base)
            if base >= one[0]:
                gain = max(gain, one[1] + plain.tells(other[2], base + one[1]))
            if gain > (points[-1][1] if points else 0):
                points.append((base, gain))
        return tuple(points)
    lowest = max(one[0], other[0] - one[1])
    return (lowest, one[1] + other[1], ahead(one, other), ahead(back(other), back(one)))


def beside_told(one, other):
    """The row beside, as the document tells it in brackets."""
    def side(one, other):
        points = []
        for base in range(40):
            p = q = 0
            while (plain.tells(one, base + q), plain.tells(other, base + p)) != (p, q):
                p, q = plain.tells(one, base + q), plain.tells(other, base + p)
            if p + q > (points[-1][1] if points else 0):
                points.append((base, p + q))
        return tuple(points)

    def last(stairs):
        return stairs[-1][1] if stairs else 0
    net = one[1] + other[1]
    ahead, behind = side(one[2], other[2]), side(one[3], other[3])
    lowest = next(base for base in itertools.count() if (
        plain.tells(ahead, base) == last(one[2]) + last(other[2])
        and base + last(other[2]) >= one[0] and base + last(one[2]) >= other[0]
        and base + net >= 0 and plain.tells(behind, base + net) == last(one[3]) + last(other[3])))
    return (lowest, net, ahead, behind)


class Sums(plain.Raises, unittest.TestCase):

    def test_by_all_ways(self):
        rng = random.Random(81)
        for _ in range(120):
            one, other = plain.any_steps(rng, rng.randint(0, 4)), plain.any_steps(rng, rng.randint(0, 3))
            self.assertEqual(then_row(row_of(one), row_of(other)), plain.row(one + other))
            self.assertEqual(beside_row(row_of(one), row_of(other)), best_row(plain.shuffles(one, other)))

    def test_by_the_words(self):
        rows = list(some_rows(82, 300))
        for one, other in zip(rows, rows[1:]):
            self.assertEqual(then_row(one, other), then_told(one, other))
            self.assertEqual(beside_row(one, other), beside_told(one, other))
            self.assertEqual(beside_row(one, other), beside_row(other, one))
            for told in (then_row(one, other), beside_row(one, other)):
                self.assertTrue(is_row(told))
            self.assertEqual(back(beside_row(one, other)), beside_row(back(one), back(other)))
            self.assertEqual(back(then_row(one, other)), then_row(back(other), back(one)))

    def test_without_stairs(self):
        nothing = (0, 0, (), ())
        for told in some_rows(83, 60):
            for call in (then_row, beside_row):
                self.assertEqual(call(told, nothing), told)
                self.assertEqual(call(nothing, told), told)
        self.assertEqual(then_row((3, 0, (), ()), (7, 0, (), ())), (7, 0, (), ()))
        self.assertEqual(beside_row(one=(3, 0, (), ()), other=(7, 0, (), ())), (7, 0, (), ()))

    def test_errors(self):
        good = (3, 1, ((3, 1),), ())
        for value in plain.odd_values(Plan("a")) + plain.near(good):
            if not is_row(value):
                for call in (then_row, beside_row):
                    self.raises(BadRow, value, call, value, None)
                    self.raises(BadRow, value, call, good, value)
        self.raises(BadRow, None, then_row, one=None, other=1)
        self.assertEqual(then_row(one=good, other=good), (3, 2, ((3, 2),), ()))


class RowBy(plain.Raises, unittest.TestCase):

    def test_plans_in_place_of_tasks(self):
        rng = random.Random(84)
        for _ in range(60):
            text = plain.any_text(rng, "abc"[:rng.randint(1, 3)], ("then", "beside"))
            names = iter("hijklmno")
            rows, trade, inner = [], (), text
            for task in sorted(Plan(text).tasks):
                part = plain.any_text(rng, [next(names) for _ in range(rng.randint(1, 2))], ("then", "beside"))
                its = plain.any_trade(rng, Plan(part).tasks)
                inner = inner.replace(f"{task},", f"{part},").replace(f"{task})", f"{part})") if "(" in inner else part
                rows.append((task, row(Plan(part), its)))
                trade += its
            runs = plain.runs(inner)
            wanted = best_row([plain.steps_of(tuple(sorted(trade)), run) for run in runs])
            self.assertEqual(row_by(Plan(text), tuple(rows)), wanted, (text, inner))

    def test_tasks_alone(self):
        rng = random.Random(85)
        for text in plain.some_texts(86, 60, 8, ("then", "beside")):
            plan = Plan(text)
            trade = plain.any_trade(rng, "abcdefgh")
            rows = tuple((task, row_of(plain.steps_of(trade, (task,)))) for task in sorted(plan.tasks))
            self.assertEqual(row_by(plan, rows), row(plan, trade))

    def test_errors(self):
        plan, good = Plan("beside(a,b)"), (("a", (3, 1, ((3, 1),), ())), ("b", (0, 0, (), ())))
        wide = Plan("either(a,b)")
        self.raises(NotPlain, 2, row_by, wide, None)
        self.raises(NotPlain, 2, row_by, plan=wide, rows=good)
        bad = [good[::-1], good[:1], good[1:], good + good[1:], good + (("c", (0, 0, (), ())),), list(good), (), None,
               (good[0], ("c", (0, 0, (), ()))), (good[0], ["b", (0, 0, (), ())]), (good[0], ("b", [0, 0, (), ()])),
               (good[0], ("b", None)), (good[0], (1, (0, 0, (), ()))), (good[0], good[0]), dict(good)]
        for value in bad + plain.odd_values(plan):
            self.raises(BadRows, value, row_by, plan, value)
        for value in plain.near(good):
            if not (type(value) is tuple and [pair[0] for pair in value if type(pair) is tuple and len(pair) == 2]
                    == ["a", "b"] and len(value) == 2 and all(is_row(pair[1]) for pair in value)):
                self.raises(BadRows, value, row_by, plan, value)
        self.assertEqual(row_by(plan=plan, rows=good), (3, 1, ((3, 1),), ()))


if __name__ == "__main__":
    unittest.main()
