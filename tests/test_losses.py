"""Point 84: losses."""

import random
import unittest

from enoughhands.errors import BadNumber
from enoughhands.losses import holds, losses, shows_holds
from enoughhands.works import Works

from tests import changes, daily, plain
from tests.test_works import HOUSE

HELPED = HOUSE.replace("may bob cook lay", "may bob cook lay sell\nmay dan buy")
ALL = "stock 0\nplan then(a,b)\nmay ann a b\nmay bob a b\nmay cat a b\nmay dan a b\nmay eve a b"


class Losses(plain.Raises, unittest.TestCase):

    def cases(self, rng, many):
        for told, day, away in daily.cases(rng, many, ("a", "b", "c"), 4, 2):
            yield told, day, away if rng.random() < 0.5 else ()

    def test_holds(self):
        rng = random.Random(841)
        seen = {"holds": 0, "falls": 0}
        for told, day, away in self.cases(rng, 150):
            works = Works(told.text)
            for many in range(4):
                with self.subTest(told.text, day=day, away=away, many=many):
                    value = holds(works, day, away, many)
                    seen[value[0]] += many > 0
                    self.assertTrue(changes.is_holds(told, day, away, many, value))
                    self.assertIs(shows_holds(works, day, away, many, value), True)
                    near = plain.near(value)
                    for other in rng.sample(near, min(12, len(near))) + self.others(works, told, day, away, many):
                        self.assertIs(shows_holds(works, day, away, many, other),
                                      changes.is_holds(told, day, away, many, other), other)
        self.assertTrue(min(seen.values()) > 50, seen)

    def others(self, works, told, day, away, many):
        """What other numbers, lots and people who are away would tell."""
        found = [holds(works, day, away, number) for number in (many - 1, many + 1) if 0 <= number <= 5]
        found += [holds(works, day, gone, many) for gone in ((), tuple(sorted(told.mays))[:1])]
        papers = [value[2] for value in found if value[0] == "falls"]
        lots = [lot for number in range(4) for lot in changes.lots_to_go(told, (), number)]
        return found + [("falls", lot, paper) for lot in lots for paper in papers[:2]]

    def test_losses(self):
        rng = random.Random(842)
        seen = set()
        for told, day, away in self.cases(rng, 300):
            wanted = changes.losses(told, day, away)
            seen.add(wanted)
            self.assertEqual(losses(Works(told.text), day, away), wanted, (told.text, day, away))
        self.assertTrue({None, 0, 1, 2, 3} <= seen, seen)

    def test_all_may_go_but_one(self):
        works = Works(ALL)
        self.assertEqual(losses(works=works, day=(), away=()), 4)
        self.assertEqual(losses(works, (), ("bob", "eve")), 2)
        self.assertEqual(len(holds(works, (), (), 4)[1]), 5)
        self.assertEqual(holds(many=5, away=(), day=(), works=works)[:2], ("falls", ("ann", "bob", "cat", "dan", "eve")))
        self.assertEqual([row[0] for row in holds(works, (), ("bob", "eve"), 1)[1]], [("ann",), ("cat",), ("dan",)])
        # More of them than are here: all of them.
        self.assertEqual(holds(works, (), ("bob", "eve"), 5), holds(works, (), ("bob", "eve"), 3))
        self.assertEqual(holds(works, (), ("ann", "bob", "cat", "dan", "eve"), 0)[:2], ("falls", ()))
        self.assertIsNone(losses(works, (), ("ann", "bob", "cat", "dan", "eve")))
        value = holds(works, (), (), 2)
        self.assertIs(shows_holds(value=value, many=2, day=(), away=(), works=works), True)
        self.assertIs(shows_holds(works, (), (), 3, value), False)

    def test_falls_with_fewer(self):
        works, told = Works(HELPED), daily.Works(HELPED)
        papers = holds(works, (), (), 1)[2]
        self.assertEqual(holds(works, (), (), 1)[:2], ("falls", ("bob",)))
        for many, wanted in ((0, False), (1, True), (2, True), (5, True)):
            self.assertIs(shows_holds(works, (), (), many, ("falls", ("bob",), papers)), wanted)
            self.assertIs(changes.is_holds(told, (), (), many, ("falls", ("bob",), papers)), wanted)
        # Who is away already does not go away.
        again = holds(works, (), ("bob",), 0)
        self.assertEqual(again[:2], ("falls", ()))
        self.assertIs(shows_holds(works, (), ("bob",), 2, ("falls", ("bob",), again[2])), False)
        self.assertIs(shows_holds(works, (), ("bob",), 2, again), True)

    def test_finished_days(self):
        works = Works("stock 0\nplan a\nmay ann a\nmay bob b")
        day = (("a", "ann"),)
        self.assertEqual(holds(works, day, (), 2), ("holds", ((("ann", "bob"), ()),)))
        self.assertEqual(holds(works, day, ("ann", "bob"), 5), ("holds", (((), ()),)))
        self.assertEqual((losses(works, day, ()), losses(works, day, ("ann",)), losses(works, day, ("ann", "bob"))), (2, 1, 0))

    def test_bad_number(self):
        works = Works(HOUSE)
        for value in plain.odd_values(works) + [-1, 6, 5.0 == 5, "1", (1,), None]:
            if type(value) is int and 0 <= value <= 5:
                self.assertIn(holds(works, (), (), value)[0], ("holds", "falls"))
            else:
                self.raises(BadNumber, value, holds, works, (), (), value)
                self.raises(BadNumber, value, shows_holds, works, (), (), value, None)
        self.assertEqual([holds(works, (), (), number)[0] for number in range(6)], ["holds"] + ["falls"] * 5)

    def test_other_values(self):
        for text, many in ((HOUSE, 0), (HOUSE, 1), (ALL, 1), ("stock 0\nplan a\nmay ann b", 0)):
            works, told = Works(text), daily.Works(text)
            values = plain.odd_values(works)
            values += [("holds", value) for value in values] + [("holds", (((), value),)) for value in plain.odd_values()]
            values += [("falls", value, ()) for value in plain.odd_values()] + [("falls", (), value) for value in values]
            values += [("holds", ((value, ()),)) for value in plain.odd_values()]
            for value in values:
                self.assertIs(shows_holds(works, (), (), many, value), changes.is_holds(told, (), (), many, value), value)


if __name__ == "__main__":
    unittest.main()
