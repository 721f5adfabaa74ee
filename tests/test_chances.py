"""Point 71: eithers that others choose."""

import random
import unittest

from enoughhands.chances import asks, by, eithers
from enoughhands.errors import BadForeign, BadLot, BadTold
from enoughhands.plans import Plan

from tests import plain, telling

TEA = "then(boil,either(pour,beside(mix,either(mint,lemon))),serve)"
NEST = "either(either(a,then(b,either(c,d))),beside(e,either(f,g)))"
TEXTS = ["a", "then(a,b)", "either(a,b)", TEA, NEST, "beside(either(a,b),either(c,d),either(e,f))",
         "then(either(a,then(b,c)),either(either(d,e),f))"]


def texts(seed, many):
    rng = random.Random(seed)
    return TEXTS + [plain.any_text(rng, ("a", "b", "c", "d", "e")[:rng.randint(2, 5)], ("then", "beside", "either", "either"))
                    for _ in range(many)]


class Chances(plain.Raises, unittest.TestCase):

    def test_eithers(self):
        for text in texts(711, 150):
            self.assertEqual([one.text for one in eithers(plan=Plan(text))], telling.eithers(text))
            self.assertTrue(all(isinstance(one, Plan) for one in eithers(Plan(text))))
            self.assertIsInstance(eithers(Plan(text)), tuple)

    def test_by(self):
        for text in texts(712, 50):
            for foreign in telling.foreign_lots(text):
                for told in telling.all_told(text, foreign):
                    with self.subTest(text, foreign=foreign, told=told):
                        self.assertEqual(by(Plan(text), foreign, told).text, telling.by(text, told))

    def test_what_is_told_of_another_part_goes(self):
        plan = Plan(NEST)
        self.assertEqual(by(told=((0, 1), (2, 0)), foreign=(0, 2), plan=plan).text, "beside(e,either(f,g))")
        self.assertEqual(by(plan, (0, 1, 2, 3), ((0, 0), (1, 1), (2, 1), (3, 0))).text, "then(b,d)")
        self.assertEqual(by(plan, (1, 3), ((1, 0), (3, 1))).text, "either(a,beside(e,g))")

    def test_asks(self):
        seen = set()
        for text in texts(713, 60):
            plan = Plan(text)
            for foreign in telling.foreign_lots(text):
                for told in telling.all_told(text, foreign):
                    for lot in telling.ways(telling.by(text, told)).next:
                        wanted = telling.asks(text, foreign, told, lot)
                        seen.add(len(wanted))
                        self.assertEqual(asks(plan, foreign, told, lot), wanted, (text, foreign, told, lot))
        self.assertTrue({0, 1, 2, 3} <= seen)

    def test_asks_within_an_either_that_is_begun(self):
        plan = Plan("either(then(a,either(b,c)),d)")
        self.assertEqual(asks(tasks=("a",), told=(), foreign=(0, 1), plan=plan), (0, 1))
        self.assertEqual(asks(plan, (0,), (), ("a",)), (0,))
        self.assertEqual(asks(plan, (1,), (), ()), ())
        self.assertEqual(asks(plan, (0,), (), ("d",)), ())
        # In a part of an either that is not foreign, where another part could be taken.
        self.assertEqual(asks(Plan("either(a,either(b,c))"), (1,), (), ()), (1,))

    def test_bad_foreign(self):
        for text in TEXTS:
            plan = Plan(text)
            values = plain.odd_values(plan) + [(0, 1), (1, 0), (0, 0), (0, True), (3,), (4,), (-1,), [0], (0, "1"), ((0,),), (0, None)]
            for value in values:
                if telling.is_foreign(text, value):
                    self.assertEqual(by(plan, value, ()).text, text)
                    asks(plan, value, (), ())
                else:
                    self.raises(BadForeign, value, by, plan, value, None)
                    self.raises(BadForeign, value, asks, plan, value, None, None)
                    self.raises(BadForeign, value, asks, foreign=value, tasks=(), told=(), plan=plan)

    def test_bad_told(self):
        for text in TEXTS:
            plan = Plan(text)
            lots = telling.foreign_lots(text)
            for foreign in {lots[0], lots[-1], lots[len(lots) // 2]}:
                values = plain.odd_values(plan)
                for told in telling.all_told(text, foreign)[:12]:
                    values += plain.near(told)
                values += [((0, 2),), ((0, -1),), ((0, 0), (0, 1)), ((1, 0), (0, 0)), ((0, False),), ([0, 0],), [(0, 0)], ((0, 0, 0),),
                           ((1, 1), (1, 1)), ((0, None),), (("a", "b"),), (0, 0)]
                for value in values:
                    if telling.is_told(text, foreign, value):
                        self.assertEqual(by(plan, foreign, value).text, telling.by(text, value))
                    else:
                        self.raises(BadTold, value, by, plan, foreign, value)
                        self.raises(BadTold, value, asks, plan, foreign, value, None)

    def test_bad_lot(self):
        for text in TEXTS:
            plan = Plan(text)
            foreign = telling.foreign_lots(text)[-1]
            for told in telling.all_told(text, foreign)[:6]:
                lots = list(telling.ways(telling.by(text, told)).next)
                values = plain.odd_values(plan) + lots + [list(lot) for lot in lots] + [lot[::-1] for lot in lots]
                values += list(telling.ways(text).next)
                for value in values:
                    wanted = telling.asks(text, foreign, told, value)
                    if wanted is None:
                        self.raises(BadLot, value, asks, plan, foreign, told, value)
                    else:
                        self.assertEqual(asks(plan, foreign, told, value), wanted)
        self.raises(BadForeign, 1, asks, Plan("a"), 1, 2, 3)
        self.raises(BadTold, 2, asks, Plan("a"), (), 2, 3)


if __name__ == "__main__":
    unittest.main()
