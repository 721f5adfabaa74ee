"""Point 82: the cheapest changes."""

import random
import unittest

from enoughhands.choosing import cheapest, shows_cheapest, vital
from enoughhands.finishing import finish
from enoughhands.offers import changed
from enoughhands.works import Works

from tests import changes, daily, plain
from tests.test_works import HOUSE


def cases(rng, many):
    for told, day, away in changes.tight_cases(rng, many, ("a", "b", "c"), 2, 3):
        yield told, changes.any_offers(rng, told, 4)


class Choosing(plain.Raises, unittest.TestCase):

    def test_cheapest(self):
        rng = random.Random(821)
        seen = {"none": 0, "choice": 0, "first": 0}
        for told, offers in cases(rng, 160):
            works = Works(told.text)
            with self.subTest(told.text, offers=offers):
                value = cheapest(works, offers)
                seen["first" if value[:3] == ("choice", 0, ()) else value[0]] += 1
                self.assertTrue(changes.is_cheapest(told, offers, value))
                self.assertIs(shows_cheapest(works, offers, value), True)
                near = plain.near(value)
                for changed_value in rng.sample(near, min(15, len(near))) + self.others(told, offers, value):
                    self.assertIs(shows_cheapest(works, offers, changed_value),
                                  changes.is_cheapest(told, offers, changed_value), changed_value)
        self.assertTrue(min(seen.values()) > 15, seen)

    def others(self, told, offers, value):
        """What another choice would tell, with right rests and papers."""
        found = [("none", value[-1]), ("none", ()), ("choice", 0, (), (), ())]
        for lot in changes.choices(offers):
            works = Works(changes.changed_text(told, lot))
            rest = finish(works, (), ())
            price = sum(one[-1] for one in lot)
            found.append(("choice", price, lot, rest[1], value[-1]))
            found.append(("choice", price, lot, rest[1], ()))
        if value[0] == "choice" and value[4]:
            found += [value[:4] + (value[4][::-1],), value[:4] + (value[4][1:],), value[:1] + (True,) + value[2:]]
        return found

    def test_vital(self):
        rng = random.Random(822)
        sizes = set()
        for told, offers in cases(rng, 260):
            good = changes.serving(told, offers)
            wanted = tuple(one for one in offers if all(one in lot for lot in good))
            sizes.add((bool(good), len(wanted)))
            self.assertEqual(vital(Works(told.text), offers), wanted, (told.text, offers))
        self.assertTrue({(True, 0), (True, 1), (True, 2), (False, 2)} <= sizes)

    def test_sequence_of_choices(self):
        """By price, then by how many, then as tuples."""
        works = Works("stock 0\nplan either(a,b)\ntask a 2 0\ntask b 2 0\nmay ann a b")
        offers = (("need", "a", 2, 2), ("need", "b", 1, 1), ("stock", 1, 1))
        value = cheapest(works=works, offers=offers)
        self.assertEqual(value[:3], ("choice", 2, (("need", "a", 2, 2),)))
        self.assertEqual([reason[0] for reason in value[4]], [(), offers[1:2], offers[2:]])
        self.assertEqual(cheapest(works, (("need", "a", 2, 2), ("need", "b", 2, 2)))[:3], ("choice", 2, (("need", "a", 2, 2),)))
        self.assertEqual(vital(works=works, offers=offers), ())
        self.assertEqual(cheapest(works, offers[1:])[:3], ("choice", 2, offers[1:]))
        self.assertEqual(vital(works, offers[1:]), offers[1:])
        self.assertEqual(vital(works, offers[2:]), offers[2:])
        self.assertEqual(cheapest(works, offers[2:])[0], "none")
        self.assertEqual([reason[0] for reason in cheapest(works, offers[2:])[1]], [(), offers[2:]])
        self.assertIs(shows_cheapest(value=value, offers=offers, works=works), True)

    def test_all_five_and_prices(self):
        works = Works("stock 0\nplan then(a,b)\ntask a 1 0\ntask b 2 0\nmay ann b\nunlike a b")
        offers = (("gain", "a", 1, 9), ("hire", "bob", "a", 9), ("may", "ann", "a", 1), ("need", "b", 1, 1), ("stock", 1, 9))
        value = cheapest(works, offers)
        self.assertEqual(value[:3], ("choice", 19, (offers[1], offers[3], offers[4])))
        self.assertTrue(changes.is_cheapest(daily.Works(works.text), offers, value))
        self.assertEqual(vital(works, offers), (("hire", "bob", "a", 9), ("stock", 1, 9)))
        dropped = (("duty", 0, 1), ("may", "ann", "a", 1), ("stock", 2, 9))
        self.assertEqual(cheapest(works, dropped)[2], dropped)

    def test_serves_at_once(self):
        works = Works(HOUSE)
        value = cheapest(works, (("stock", 3, 1),))
        self.assertEqual((value[:3], value[4]), (("choice", 0, ()), ()))
        self.assertEqual(vital(works, (("stock", 3, 1),)), ())
        self.assertIs(shows_cheapest(works, (("stock", 3, 1),), ("choice", False) + value[2:]), False)
        self.assertIs(shows_cheapest(works, (("stock", 3, 1),), ("choice", 1, (("stock", 3, 1),), value[3], ())), False)

    def test_true_is_not_one(self):
        works = Works("stock 0\nplan a\ntask a 1 0\nmay ann a")
        value = ("choice", 1, (("stock", 1, 1),), (("a", "ann"),), (((), ((("a",), "stock", ((),)),)),))
        self.assertIs(shows_cheapest(works, (("stock", 1, 1),), value), True)
        for wrong in (("stock", True, 1), ("stock", 1, True), ["stock", 1, 1]):
            self.assertIs(shows_cheapest(works, (("stock", 1, 1),), value[:2] + ((wrong,),) + value[3:]), False)
        self.assertIs(shows_cheapest(works, (("stock", 1, 1),), ("choice", True) + value[2:]), False)
        poor = Works("stock 0\nplan a\ntask a 9 0\nmay ann a")
        told = cheapest(poor, (("stock", 1, 1),))
        self.assertIs(shows_cheapest(poor, (("stock", 1, 1),), told), True)
        changed_told = ("none", (told[1][0], ((("stock", True, 1),), told[1][1][1])))
        self.assertIs(shows_cheapest(poor, (("stock", 1, 1),), changed_told), False)

    def test_other_values(self):
        for text in (HOUSE, "stock 0\nplan a\nmay ann b", "stock 0\nplan a\nmay ann a"):
            works, told = Works(text), daily.Works(text)
            offers = (("stock", 1, 1),)
            values = plain.odd_values(works, changed(works, offers))
            values += [("none", value) for value in values] + [("choice", 0, (), value, ()) for value in values]
            values += [("choice", 0, value, (("a", "ann"),), ()) for value in plain.odd_values()]
            values += [("choice", value, (), (("a", "ann"),), ()) for value in plain.odd_values()]
            values += [("none", (((), value), (offers, value))) for value in plain.odd_values()]
            for value in values:
                self.assertIs(shows_cheapest(works, offers, value), changes.is_cheapest(told, offers, value), value)


if __name__ == "__main__":
    unittest.main()
