"""Point 25: plans beside everything, and point 3 (a)."""

import random
import unittest

from enoughhands.beside import (alike, first_beside, first_with, row_within, shows_alike, shows_row_within,
                                shows_within, within)
from enoughhands.errors import BadRow, BadStep, BadSteps, BadTrade, NotPlain
from enoughhands.plans import Plan
from enoughhands.rows import first, row, row_of

from tests import plain
from tests.test_rows import is_row, some_rows

PLAIN = ("then", "beside")
SMALL = [(need, after - need) for need in range(7) for after in range(7)]


def plain_first_beside(text, trade, step):
    """The least stock of a plan with one step put in anywhere, by all runs."""
    found = []
    for run in plain.runs(text):
        steps = plain.steps_of(trade, run)
        found += [plain.least(steps[:at] + (step,) + steps[at:]) for at in range(len(steps) + 1)]
    return min(found)


def is_step(value):
    return (type(value) is tuple and [type(part) for part in value] == [int, int]
            and value[0] >= 0 and sum(value) >= 0)


def two_plans(seed, many, most=4):
    rng = random.Random(seed)
    for _ in range(many):
        one, other = (plain.any_text(rng, "abcdefgh"[:rng.randint(1, most)], PLAIN) for _ in range(2))
        trade, its = plain.any_trade(rng, "abcdefgh"), plain.any_trade(rng, "abcdefgh")
        if rng.random() < 0.3:
            other = one
            its = tuple((task, max(need - rng.randint(0, 1), -net, 0), net) for task, need, net in trade)
        yield one, trade, other, its


class FirstBeside(plain.Raises, unittest.TestCase):

    def test_by_all_runs(self):
        rng = random.Random(91)
        for text in plain.some_texts(92, 60, 4, PLAIN):
            trade = plain.any_trade(rng, "abcdef")
            for need, net in rng.sample(SMALL, 8) + [(0, 0), (30, -30), (0, 30), (30, 0)]:
                self.assertEqual(first_beside(Plan(text), trade, need, net),
                                 plain_first_beside(text, trade, (need, net)), (text, trade, need, net))

    def test_errors(self):
        wide, plan = Plan("either(a,b)"), Plan("a")
        self.raises(BadTrade, None, first_beside, wide, None, None, None)
        self.raises(NotPlain, 2, first_beside, wide, (), None, None)
        for need, net in [(-1, 1), (0, -1), (5, -6), (True, 0), (0, False), (None, 0), ("1", 1), ((), ()), (1, None)]:
            self.raises(BadStep, (need, net), first_beside, plan, (), need, net)
        for value in plain.odd_values(plan):
            if type(value) is not int:
                self.raises(BadStep, (value, 0), first_beside, plan, (), value, 0)
                self.raises(BadStep, (99999, value), first_beside, plan, (), 99999, value)
        self.assertEqual(first_beside(plan=plan, trade=(("a", 3, 1),), need=5, net=90), 4)
        self.assertEqual(first_beside(plan, (), 10 ** 8, -10 ** 8), 10 ** 8)


class FirstWith(plain.Raises, unittest.TestCase):

    def test_by_all_ways(self):
        rng = random.Random(93)
        for _ in range(150):
            one, other = plain.any_steps(rng, rng.randint(0, 4)), plain.any_steps(rng, rng.randint(0, 3))
            self.assertEqual(first_with(row_of(one), other),
                             min(plain.least(mixed) for mixed in plain.shuffles(one, other)))

    def test_errors(self):
        good = (3, 1, ((3, 1),), ())
        for value in plain.odd_values(Plan("a")) + plain.near(good):
            if not is_row(value):
                self.raises(BadRow, value, first_with, value, None)
        for value in (None, [], ((0, -1),), ((1,),), ((True, 0),), 3, "a", (1, 2)):
            self.raises(BadSteps, value, first_with, good, value)
        self.assertEqual(first_with(row=good, steps=()), 3)
        self.assertEqual(first_with(row=(0, 0, (), ()), steps=((4, -4), (1, 1))), 5)


class RowWithin(plain.Raises, unittest.TestCase):

    def is_within(self, one, other):
        """Whether a row is within another one, by the words of the document."""
        bases = range(-20, 30)
        return one[0] <= other[0] and all(plain.tells(one[2], base) >= plain.tells(other[2], base) for base in bases) \
            and all(one[1] + plain.tells(one[3], base + one[1]) >= other[1] + plain.tells(other[3], base + other[1])
                    for base in bases)

    def two_rows(self):
        rows = list(some_rows(94, 150))
        rng = random.Random(95)
        yield from zip(rows, rows[1:])
        for _ in range(150):
            steps = plain.any_steps(rng, rng.randint(1, 4))
            at = rng.randrange(len(steps))
            need, net = steps[at]
            other = steps[:at] + ((need + rng.randint(0, 1), net),) + steps[at + 1:]
            yield row_of(steps), row_of(other)
            yield row_of(other), row_of(steps)

    def test_row_within(self):
        seen = set()
        for one, other in self.two_rows():
            with self.subTest(one=one, other=other):
                value = row_within(one, other)
                steps = [step for step in SMALL + [(50, -50), (0, 50), (40, 0)]
                         if first_with(one, (step,)) > first_with(other, (step,))]
                seen.add(value is None)
                self.assertEqual(value is None, self.is_within(one, other))
                if value is None:
                    self.assertEqual(steps, [])
                else:
                    self.assertTrue(is_step(value))
                    self.assertGreater(first_with(one, (value,)), first_with(other, (value,)))
                self.assertIs(shows_row_within(one, other, value), True)
                self.assertIs(shows_row_within(one, other, None), value is None)
                for step in SMALL[::5] + steps[:3]:
                    self.assertIs(shows_row_within(one, other, step), step in steps)
                for changed in plain.near(value) if value else []:
                    wanted = is_step(changed) and first_with(one, (changed,)) > first_with(other, (changed,))
                    self.assertIs(shows_row_within(one, other, changed), wanted)
        self.assertEqual(seen, {True, False})

    def test_bases_below_0(self):
        one, other = row_of(((5, -5),)), row_of(((5, -4),))
        self.assertIsNotNone(row_within(one, other))
        self.assertIsNone(row_within(other, one))
        self.assertIsNotNone(row_within((9, -1, (), ((0, 1),)), (9, 0, (), ())))
        self.assertIsNone(row_within((9, 0, (), ()), (9, -3, (), ((1, 3),))))
        for pair in (((9, -1, (), ((0, 1),)), (9, 0, (), ())), ((9, -3, (), ((1, 3),)), (9, 0, (), ())),
                     ((9, 0, (), ()), (9, 0, ((3, 4),), ((5, 4),)))):
            step = row_within(*pair)
            self.assertGreater(first_with(pair[0], (step,)), first_with(pair[1], (step,)))

    def test_without_stairs(self):
        self.assertIsNone(row_within((3, 0, (), ()), (7, 0, (), ())))
        self.assertIsNotNone(row_within((7, 0, (), ()), (3, 0, (), ())))
        self.assertIsNone(row_within(one=(0, 0, (), ()), other=(0, 0, (), ())))

    def test_other_values_and_errors(self):
        good, high = (3, 1, ((3, 1),), ()), (8, 1, ((3, 1),), ())
        for value in plain.odd_values(Plan("a")):
            self.assertIs(shows_row_within(good, high, value), value is None)
            self.assertIs(shows_row_within(high, good, value),
                          is_step(value) and first_with(high, (value,)) > first_with(good, (value,)))
        for value in plain.odd_values(Plan("a")) + plain.near(good):
            if not is_row(value):
                for call in (row_within, lambda one, other: shows_row_within(one, other, None)):
                    self.raises(BadRow, value, call, value, None)
                    self.raises(BadRow, value, call, good, value)
        self.assertIs(shows_row_within(one=good, other=high, value=None), True)


class Within(plain.Raises, unittest.TestCase):

    def test_within_and_alike(self):
        seen = set()
        for one, trade, other, its in two_plans(96, 250):
            plan, its_plan = Plan(one), Plan(other)
            with self.subTest(one=one, trade=trade, other=other, its=its):
                more = self.steps(one, trade, other, its)
                value = within(plan, trade, its_plan, its)
                back = within(its_plan, its, plan, trade)
                both = alike(plan, trade, its_plan, its)
                seen.add((value[0], back[0]))
                self.assertEqual(both == ("alike",), row(plan, trade) == row(its_plan, its))
                if value == ("within",):
                    self.assertEqual(more, [])
                else:
                    self.assertEqual(value[0], "more")
                    self.assertTrue(self.is_more(one, trade, other, its, value[1:]))
                if both == ("alike",):
                    self.assertEqual((value, back), (("within",), ("within",)))
                else:
                    self.assertEqual(both[0], "parts")
                    self.assertTrue(self.is_more(one, trade, other, its, both[1:])
                                    or self.is_more(other, its, one, trade, both[1:]))
                self.shown(one, trade, other, its, value, both)
        self.assertEqual(len(seen), 4)

    def steps(self, one, trade, other, its):
        steps = [(0, 0), (3, 3), (2, -2), (5, 9), (9, -6), (4, -1), (1, 0), (12, -12), (6, 30)]
        return [step for step in steps if self.is_more(one, trade, other, its, step)]

    def is_more(self, one, trade, other, its, step):
        return (is_step(step)
                and plain_first_beside(one, trade, step) > plain_first_beside(other, its, step))

    def shown(self, one, trade, other, its, value, both):
        """The functions shows_.. at what was told, and at values near to it."""
        plan, its_plan = Plan(one), Plan(other)
        self.assertIs(shows_within(plan, trade, its_plan, its, value), True)
        self.assertIs(shows_alike(plan, trade, its_plan, its, both), True)
        for changed in plain.near(value) + [("within",), ("more", 2, -2), ("more", 5, 9)]:
            wanted = plain.alike(changed, ("within",)) and value == ("within",)
            if type(changed) is tuple and len(changed) == 3 and plain.alike(changed[0], "more"):
                wanted = self.is_more(one, trade, other, its, changed[1:])
            self.assertIs(shows_within(plan, trade, its_plan, its, changed), wanted, changed)
        for changed in plain.near(both) + [("alike",), ("parts", 2, -2), ("parts", 5, 9)]:
            wanted = plain.alike(changed, ("alike",)) and both == ("alike",)
            if type(changed) is tuple and len(changed) == 3 and plain.alike(changed[0], "parts"):
                wanted = (self.is_more(one, trade, other, its, changed[1:])
                          or self.is_more(other, its, one, trade, changed[1:]))
            self.assertIs(shows_alike(plan, trade, its_plan, its, changed), wanted, changed)

    def test_beside_everything(self):
        """In whatever plan other stands: with one in its place first is no greater; the tasks beside are many."""
        rng = random.Random(97)
        checked = 0
        for one, trade, other, its in two_plans(98, 300, 3):
            if within(Plan(one), trade, Plan(other), its) != ("within",):
                continue
            checked += 1
            around = plain.any_text(rng, ["slot"] + list("uvwxy"[:rng.randint(1, 5)]))
            great = rng.choice([6, 40])
            more = plain.any_trade(rng, "uvwxy", great)
            self.assertLessEqual(self.first_in(around, one, trade, more), self.first_in(around, other, its, more),
                                 (one, trade, other, its, around, more))
        self.assertGreater(checked, 30)

    def first_in(self, around, text, trade, more):
        """The least stock of the plan around with this one in the place of its task slot."""
        names = dict(zip("abcdefgh", "ijklmnop"))
        renamed = "".join(names[sign] if sign in names and self.is_alone(text, at) else sign
                          for at, sign in enumerate(text))
        together = tuple(sorted(more + tuple((names[task], need, net) for task, need, net in trade
                                             if task in names)))
        return first(Plan(around.replace("slot", renamed)), together)[1]

    def is_alone(self, text, at):
        """Whether the sign at this place is a task by itself."""
        ahead, behind = text[at - 1:at] if at else "", text[at + 1:at + 2]
        return not ahead.isalpha() and not behind.isalpha()

    def test_errors(self):
        wide, plan = Plan("either(a,b)"), Plan("a")
        three = Plan("either(a,b,c)")
        calls = (within, alike, lambda *told: shows_within(*told, None), lambda *told: shows_alike(*told, None))
        for call in calls:
            self.raises(BadTrade, None, call, wide, None, wide, None)
            self.raises(NotPlain, 2, call, wide, (), three, None)
            self.raises(BadTrade, None, call, plan, (), three, None)
            self.raises(NotPlain, 3, call, plan, (), three, ())
            for value in plain.odd_values(plan):
                if value != () and not plain.alike(value, (("a", 1, 1),)) or type(value) is not tuple:
                    self.raises(BadTrade, value, call, wide, value, None, None)
                    self.raises(BadTrade, value, call, plan, (), wide, value)

    def test_by_name_and_other_values(self):
        one, other = Plan("a"), Plan("b")
        trade = (("a", 3, 1), ("b", 9, 9))
        self.assertEqual(within(one=one, trade=(), other=other, its=()), ("within",))
        self.assertEqual(alike(one=one, trade=(), other=other, its=()), ("alike",))
        self.assertIs(shows_within(one=one, trade=(), other=other, its=(), value=("within",)), True)
        self.assertIs(shows_alike(one=one, trade=(), other=other, its=(), value=("alike",)), True)
        for value in plain.odd_values(one):
            self.assertIs(shows_within(one, (), other, (), value), plain.alike(value, ("within",)))
            self.assertIs(shows_alike(one, (), other, (), value), plain.alike(value, ("alike",)))
        self.assertIs(shows_within(one, trade, one, (), ("more", 0, 0)), True)
        self.assertIs(shows_within(one, trade, one, (), ("more", False, 0)), False)
        self.assertIs(shows_alike(one, trade, one, (), ("parts", 0, 0)), True)
        self.assertIs(shows_alike(one, (), one, trade, ("parts", 0, 0)), True)
        self.assertIs(shows_within(one, (), one, trade, ("more", 0, 0)), False)


if __name__ == "__main__":
    unittest.main()
