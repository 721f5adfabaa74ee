"""Point 81: offers."""

import random
import unittest

from enoughhands.choosing import cheapest, shows_cheapest, vital
from enoughhands.errors import BadOffers
from enoughhands.offers import changed
from enoughhands.works import Works

from tests import changes, daily, plain
from tests.test_works import HOUSE

# Many people, one of them with eight tasks, one with seven.
WIDE = ("stock 99990\nplan beside(a,b,either(c,d))\ntask a 9 -9\ntask b 0 9990\nmay ann a e f g h i j k\nmay bob b e f g h i j\n"
        "may cat c\nmost ann 3\nunlike a b\nfew 2 a b c")
EDGES = [("stock", 9, 1), ("stock", 10, 1), ("need", "a", 9, 9), ("need", "a", 10, 9), ("need", "b", 1, 1), ("gain", "b", 9, 1),
         ("gain", "b", 10, 1), ("gain", "a", 9999, 1), ("gain", "a", 10000, 1), ("gain", "c", 1, 1), ("need", "c", 1, 1),
         ("may", "bob", "a", 1), ("may", "bob", "c", 1), ("may", "ann", "b", 1), ("may", "cat", "c", 1), ("may", "cat", "x", 1),
         ("may", "zoe", "a", 1), ("hire", "ann", "b", 1), ("hire", "zoe", "a", 1), ("hire", "zoe", "b", 1), ("hire", "zoe", "x", 1),
         ("hire", "Zoe", "a", 1), ("hire", "zoezoezoe", "a", 1), ("hire", "", "a", 1), ("hire", "then", "a", 1), ("duty", 0, 1),
         ("duty", 2, 9), ("duty", 3, 1), ("duty", -1, 1), ("duty", 1, 0), ("duty", 1, 10), ("stock", 1, True), ("stock", True, 1),
         ("duty", False, 1), ("need", "a", True, 1), ("stock", 0, 1), ("stock", -1, 1), ("need", "a", 0, 1), ("gain", "a", 0, 1),
         ("stock", 1), ("stock", 1, 1, 1), ("duty", 0), ("more", 1, 1), ("may", "cat", "a"), (), ("stock",), ["stock", 1, 1],
         ("stock", "1", 1), (["stock"], 1, 1), ("need", ["a"], 1, 1), ("may", ["cat"], "a", 1), ("may", "cat", ["a"], 1),
         ("hire", ["zoe"], "a", 1), ("gain", {}, 1, 1), ("need", "a", None, 1), ("duty", None, 1), ("stock", 1, None)]
MANY = [(("hire", "dan", "a", 1), ("hire", "eve", "a", 1)), (("hire", "dan", "a", 1), ("hire", "eve", "a", 1), ("hire", "fay", "a", 1)),
        (("hire", "dan", "a", 1), ("hire", "dan", "b", 1)), (("may", "bob", "a", 1), ("may", "bob", "c", 1)),
        (("may", "bob", "a", 1), ("may", "bob", "a", 2)), (("may", "cat", "a", 1), ("may", "cat", "b", 2)),
        (("may", "cat", "a", 1), ("may", "cat", "a", 2)), (("may", "cat", "a", 1), ("may", "cat", "a", 1)),
        (("need", "a", 1, 1), ("need", "a", 2, 1)), (("gain", "a", 1, 1), ("need", "a", 2, 1)),
        (("gain", "a", 1, 1), ("gain", "a", 2, 1)), (("gain", "a", 1, 1), ("gain", "b", 2, 1)),
        (("stock", 1, 1), ("stock", 2, 1)), (("duty", 0, 1), ("duty", 0, 2)), (("duty", 0, 1), ("duty", 1, 1), ("duty", 2, 1)),
        (("stock", 1, 1), ("duty", 0, 1)), (("duty", 0, 1), ("duty", 0, 1)),
        (("duty", 0, 1), ("duty", 1, 1), ("duty", 2, 1), ("gain", "a", 1, 1), ("gain", "b", 1, 1)),
        (("duty", 0, 1), ("duty", 1, 1), ("duty", 2, 1), ("gain", "a", 1, 1), ("gain", "b", 1, 1), ("stock", 1, 1))]


class Offers(plain.Raises, unittest.TestCase):

    def test_changed(self):
        rng = random.Random(811)
        words = set()
        for told, day, away in daily.cases(rng, 400):
            offers = changes.any_offers(rng, told)
            words.update(one[0] for one in offers)
            other = changed(Works(told.text), offers)
            self.assertIsInstance(other, Works)
            self.assertEqual(other.text, changes.changed_text(told, offers), (told.text, offers))
        self.assertEqual(words, set(changes.SIZES))

    def test_all_lines(self):
        works = Works("stock 1\nplan then(c,a)\ntask c 3 -1\ntask a 2 0\nmay bob c\nmay ann a\nmost bob 1\nunlike c a\nmost ann 2")
        offers = (("duty", 1, 1), ("gain", "c", 2, 9), ("hire", "a", "c", 1), ("hire", "zoe", "c", 1), ("need", "c", 1, 3))
        self.assertEqual(changed(offers=offers, works=works).text, "stock 1\nplan then(c,a)\ntask c 2 2\ntask a 2 0\nmay bob c\n"
                         "may ann a\nmay a c\nmay zoe c\nmost bob 1\nmost ann 2")
        offers = (("duty", 0, 1), ("duty", 2, 1), ("may", "ann", "c", 1), ("may", "bob", "a", 1), ("stock", 7, 1))
        self.assertEqual(changed(works, offers).text, "stock 8\nplan then(c,a)\ntask c 3 -1\ntask a 2 0\nmay bob c a\n"
                         "may ann a c\nunlike c a")
        # What was told may be handed in again: no line task, no duty is left.
        self.assertEqual(changed(changed(works, offers), (("duty", 0, 1),)).crew.duties, ())
        two = (("may", "cat", "a", 1), ("may", "cat", "b", 1))
        self.assertEqual(changed(Works(WIDE), two).text.split("\n")[6], "may cat c a b")

    def test_tasks_and_people_of_the_same_name(self):
        works = Works("stock 1\nplan then(ann,bob)\ntask ann 3 -1\ntask bob 2 0\nmay ann bob\nmay bob ann\nmost ann 1")
        offers = (("gain", "ann", 4, 1), ("hire", "cat", "ann", 1), ("may", "bob", "bob", 1), ("need", "ann", 2, 1))
        self.assertEqual(changed(works, offers).text, "stock 1\nplan then(ann,bob)\ntask ann 1 5\ntask bob 2 0\n"
                         "may ann bob\nmay bob ann bob\nmay cat ann\nmost ann 1")
        full = Works("stock 1\nplan a\ntask a 8 0\nmay a b c d e f g h i\nmay b a")
        self.assertEqual(changed(full, (("need", "a", 1, 1),)).trade, (("a", 7, 1),))
        self.raises(BadOffers, (("may", "a", "a", 1),), changed, full, (("may", "a", "a", 1),))

    def test_edges(self):
        works, told = Works(WIDE), daily.Works(WIDE)
        good = 0
        for value in [(one,) for one in EDGES] + MANY + [many[::-1] for many in MANY] + [list(many) for many in MANY]:
            if changes.are_offers(told, value):
                good += 1
                self.assertEqual(changed(works, value).text, changes.changed_text(told, value))
            else:
                self.raises(BadOffers, value, changed, works, value)
        self.assertGreater(good, 15)
        eight = Works(WIDE.replace("b e f g h i j\n", "b e f g h i j k\n"))
        self.raises(BadOffers, (("may", "bob", "a", 1),), changed, eight, (("may", "bob", "a", 1),))
        self.assertEqual(changed(works, (("may", "bob", "a", 1),)).crew.may("bob"), ("a", "b", "e", "f", "g", "h", "i", "j"))
        self.assertEqual(changed(works, (("hire", "dan", "a", 1), ("hire", "eve", "a", 1))).crew.people,
                         ("ann", "bob", "cat", "dan", "eve"))
        self.assertEqual(changed(works, (("stock", 9, 1),)).stock, 99999)
        self.assertEqual(changed(works, (("need", "a", 9, 9),)).trade[0], ("a", 0, 0))
        self.assertEqual(changed(works, (("gain", "a", 9999, 9),)).trade[0], ("a", 9, 9990))

    def test_bad_offers(self):
        rng = random.Random(812)
        for text in (HOUSE, WIDE, "stock 0\nplan a\nmay ann a"):
            works, told = Works(text), daily.Works(text)
            values = plain.odd_values(works) + [(value,) for value in plain.odd_values(works)]
            for _ in range(12):
                values += plain.near(changes.any_offers(rng, told))
            wrong = 0
            for value in values:
                if not changes.are_offers(told, value):
                    wrong += 1
                    self.raises(BadOffers, value, changed, works, value)
                    if wrong % 20 == 0 or wrong < 20:
                        self.raises(BadOffers, value, cheapest, works, value)
                        self.raises(BadOffers, value, shows_cheapest, works, value, None)
                        self.raises(BadOffers, value, vital, offers=value, works=works)
                else:
                    self.assertEqual(changed(works, value).text, changes.changed_text(told, value))

    def test_what_is_changed_stays(self):
        works = Works(HOUSE)
        changed(works, (("stock", 3, 1),))
        self.assertEqual((works.text, works.stock), (HOUSE, 6))


if __name__ == "__main__":
    unittest.main()
