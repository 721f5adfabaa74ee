"""Point 65: the front."""

import random
import unittest

from enoughhands.errors import BadNumber
from enoughhands.finishing import finish
from enoughhands.fronts import front, short, shows_front
from enoughhands.works import Works

from tests import daily, people, plain
from tests.test_days import SHOP
from tests.test_works import HOUSE


def points(told, day, away):
    """The need and the people of each choice that fits."""
    found = []
    for choice in told.fits(day):
        deals = told.deals(day, away, choice)
        found.append((told.need(day, choice), min((people.people_in(deal) for deal in deals), default=None)))
    return found


def best(found):
    found = {point for point in found if point[1] is not None}
    return tuple(sorted(one for one in found
                        if not any(other != one and other[0] <= one[0] and other[1] <= one[1] for other in found)))


class Front(plain.Raises, unittest.TestCase):

    def is_paper(self, told, day, away, choice, point, paper):
        if type(paper) is not tuple or len(paper) != 7:
            return False
        if not plain.alike((paper[0], paper[1], paper[4]), (choice, *point)):
            return False
        if not any(plain.alike(paper[2], run) for run in told.let_runs(day, choice, point[0])):
            return False
        if not (told.is_stuck(day, choice, point[0] - 1, paper[3]) if point[0] else plain.alike(paper[3], ())):
            return False
        if point[1] is None:
            return plain.alike(paper[5], ()) and told.is_hands(day, away, choice, len(told.mays), paper[6])
        if not any(plain.alike(paper[5], deal) and people.people_in(deal) == point[1]
                   for deal in told.deals(day, away, choice)):
            return False
        return told.is_hands(day, away, choice, point[1] - 1, paper[6]) if point[1] else plain.alike(paper[6], ())

    def is_front(self, told, day, away, value):
        found, fits = points(told, day, away), told.fits(day)
        if type(value) is not tuple or len(value) != 2 or not plain.alike(value[0], best(found)):
            return False
        return type(value[1]) is tuple and len(value[1]) == len(fits) and all(
            self.is_paper(told, day, away, choice, point, paper) for choice, point, paper in zip(fits, found, value[1]))

    def test_front(self):
        rng = random.Random(561)
        seen = set()
        for told, day, away in daily.cases(rng, 220):
            works = Works(told.text)
            with self.subTest(told.text, day=day, away=away):
                value = front(works, day, away)
                found = points(told, day, away)
                seen.add(len(value[0]))
                self.assertEqual(value[0], best(found))
                self.assertTrue(self.is_front(told, day, away, value))
                self.assertIs(shows_front(works, day, away, value), True)
                rests = any(need <= told.level(day) for need, number in value[0])
                self.assertEqual(finish(works, day, away)[0], "rest" if rests else "never")
                near = plain.near(value)
                values = rng.sample(near, min(25, len(near))) + self.others(rng, told, day, away, value)
                for changed in values:
                    self.assertIs(shows_front(works, day, away, changed), self.is_front(told, day, away, changed), changed)
        self.assertTrue({0, 1, 2} <= seen)

    def others(self, rng, told, day, away, value):
        """Fronts with other runs, lots, deals and hands, some of them right."""
        values = []
        for at, paper in enumerate(value[1]):
            choice, need, run, lots, number, deal, hands = paper
            given = tuple(sorted(day))
            some = [told.let_runs(day, choice, need + more) for more in (0, 0, 2)]
            changed = [(choice, need, rng.choice(runs), lots, number, deal, hands) for runs in some if runs]
            text = told.left(day, choice)
            if text is not None:
                changed += [(choice, level, run, tuple(daily.Told(text, told.trade, level - 1).reached), number, deal, hands)
                            for level in (need, need + 1, max(0, need - 1))]
            deals = told.deals(day, away, choice) + told.deals(day, (), choice)
            changed += [(choice, need, run, lots, people.people_in(one), one,
                         people.reached(told.crew, choice, given, away, max(0, people.people_in(one) - 1)))
                        for one in rng.sample(deals, min(3, len(deals)))]
            changed += [(choice, need, run, lots, None, (), people.reached(told.crew, choice, given, away, len(told.mays)))]
            for other in changed:
                papers = value[1][:at] + (other,) + value[1][at + 1:]
                values.append((value[0], papers))
                values.append((best([(one[1], one[4]) for one in papers]), papers))
        return values

    def test_short(self):
        rng = random.Random(562)
        seen = set()
        for told, day, away in daily.cases(rng, 200):
            works = Works(told.text)
            with self.subTest(told.text, day=day, away=away):
                for most in range(6):
                    needs = [need for need, number in points(told, day, away) if number is not None and number <= most]
                    wanted = max(0, min(needs) - told.level(day)) if needs else None
                    self.assertEqual(short(works, day, away, most), wanted)
                    seen.add(wanted)
        self.assertTrue({None, 0, 1, 2} <= seen)

    def test_further_events(self):
        """With each event of a rest points only get worse, as the document tells."""
        rng = random.Random(563)
        for told, day, away in daily.cases(rng, 120):
            works = Works(told.text)
            for event in told.events(day, away):
                ahead = front(works, day, away)[0]
                (need, net), = plain.steps_of(told.trade, (event[0],))
                for low, number in front(works, day + (event,), away)[0]:
                    self.assertTrue(any(people_ahead <= number and need_ahead <= max(need, low - net)
                                        for need_ahead, people_ahead in ahead))

    def test_edges(self):
        works = Works(HOUSE)
        done = (("buy", "ann"), ("cook", "bob"), ("lay", "bob"), ("sell", "ann"))
        choice, deal = ("buy", "cook", "lay", "sell"), (("buy", "ann"), ("cook", "bob"), ("lay", "bob"), ("sell", "ann"))
        told = people.read(works.crew.text)
        for away in ((), ("ann", "bob")):
            value = (((0, 2),), ((choice, 0, (), (), 2, deal, people.reached(told, choice, deal, away, 1)),))
            self.assertEqual(front(works=works, day=done, away=away), value)
            self.assertIs(shows_front(works=works, day=done, away=away, value=value), True)
            self.assertEqual([short(works=works, day=done, away=away, most=most) for most in range(4)], [None, None, 0, 0])
            self.assertIs(shows_front(works, done, away, (((1, 2),), ((choice, 1, *value[1][0][2:]),))), False)
            self.assertIs(shows_front(works, done, away, (((-1, 2),), ((choice, -1, *value[1][0][2:]),))), False)
            for number in (False, True, 1, None):
                self.assertIs(shows_front(works, done, away, (((number, 2),), value[1])), False)
                self.assertIs(shows_front(works, done, away, (((0, 2),), ((choice, number, *value[1][0][2:]),))), False)
        # Need 0, one person: True is not 1, and False not 0.
        free = Works("stock 0\nplan a\nmay ann a")
        value = (((0, 1),), ((("a",), 0, ("a",), (), 1, (("a", "ann"),), ((((), (0,)),),)),))
        self.assertEqual(front(free, (), ()), value)
        for changed in plain.near(value):
            self.assertIs(shows_front(free, (), (), changed), False, changed)
        # Nobody may do it: people None, whatever the stock is.
        none = Works("stock 0\nplan a\ntask a 9999 0\nmay ann b")
        value = ((), ((("a",), 9999, ("a",), ((),), None, (), ((((), (0,)),),)),))
        self.assertEqual(front(none, (), ()), value)
        self.assertEqual([short(none, (), (), most) for most in (0, 5)], [None, None])
        for changed in plain.near(value):
            self.assertIs(shows_front(none, (), (), changed), False, changed)
        # Equal points are told once.
        self.assertEqual(front(Works("stock 0\nplan either(a,b)\nmay ann a b"), (), ())[0], ((0, 1),))

    def test_errors(self):
        works, told = Works(SHOP), daily.Works(SHOP)
        for value in plain.odd_values(works) + [-1, 6]:
            if not plain.is_int(value) or not 0 <= value <= 5:
                self.raises(BadNumber, value, short, works, (), (), value)
            self.assertIs(shows_front(works, (), (), value), False)
            self.assertIs(shows_front(works, (), (), (value, front(works, (), ())[1])), False)
            self.assertIs(shows_front(works, (), (), (front(works, (), ())[0], value)), False)
        self.assertTrue(self.is_front(told, (), (), front(works, (), ())))


if __name__ == "__main__":
    unittest.main()
