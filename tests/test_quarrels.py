"""Point 85: duties that bar."""

import random
import unittest

from enoughhands.quarrels import freed, quarrels
from enoughhands.works import Works

from tests import changes, daily
from tests.test_works import HOUSE

BOUND = HOUSE + "\nunlike buy sell\nmost bob 1\nmost ann 3\nfew 2 buy lay sell"


class Quarrels(unittest.TestCase):

    def test_all_lots_of_duties(self):
        rng = random.Random(851)
        seen = set()
        for told, day, away in changes.tight_cases(rng, 330, ("a", "b", "c"), 2, 6):
            if rng.random() < 0.8:
                told = changes.with_stock_line(told, told.stock + 9)
            works = Works(told.text)
            with self.subTest(told.text):
                wanted, loosened = changes.quarrels(told), changes.freed(told)
                seen.update([len(wanted), ("freed", len(loosened))] + [("of", len(lot)) for lot in wanted])
                self.assertEqual(quarrels(works), wanted)
                self.assertEqual(freed(works), loosened)
        self.assertTrue({0, 1, 2, 3, ("freed", 0), ("freed", 1), ("freed", 2), ("of", 0), ("of", 1), ("of", 2)} <= seen, seen)

    def test_no_duty(self):
        for text, wanted in ((HOUSE, ((), ((),))), (HOUSE.replace("stock 6", "stock 4"), (((),), ())),
                             ("stock 0\nplan a\nmay ann b", (((),), ()))):
            self.assertEqual((quarrels(Works(text)), freed(works=Works(text))), wanted)

    def test_one_duty(self):
        for text, wanted in (("stock 0\nplan a\nmay ann a\nmost ann 0", (((0,),), ((0,),))),
                             ("stock 0\nplan a\nmay ann a\nmost ann 1", ((), ((),))),
                             ("stock 0\nplan a\nmay ann b\nmost ann 0", (((),), ()))):
            self.assertEqual((quarrels(works=Works(text)), freed(Works(text))), wanted)

    def test_eight_duties(self):
        works = Works("stock 0\nplan then(a,b,c,d)\nmay ann a b c d\nmay bob c d\nunlike a b\nmost ann 1\nmost ann 2\nmost ann 8\n"
                      "most bob 0\nsame a c\nfew 1 b d\nunlike a d")
        told = daily.Works(works.text)
        self.assertEqual((quarrels(works), freed(works)), (changes.quarrels(told), changes.freed(told)))
        self.assertEqual(quarrels(works)[:3], ((0,), (1,), (2, 4)))
        # Eight duties, of which any two are one too many.
        pairs = Works("stock 0\nplan a\nmay ann a\n" + "\n".join(f"most ann {number}" for number in range(8)))
        self.assertEqual((quarrels(pairs), freed(pairs)), (((0,),), ((0,),)))

    def test_choices(self):
        """A duty that bars one choice does not bar another one."""
        works = Works("stock 1\nplan either(then(a,b),then(c,d))\ntask c 1 0\nmay ann a b c d\nunlike a b\nunlike c d")
        self.assertEqual((quarrels(works), freed(works)), (((0, 1),), ((0,), (1,))))
        # The second choice wants more stock than there is.
        self.assertEqual((quarrels(works.with_stock(0)), freed(works.with_stock(0))), (((0,),), ((0,),)))
        self.assertEqual((quarrels(Works(BOUND)), freed(Works(BOUND))), (((0,), (1,)), ((0, 1),)))


if __name__ == "__main__":
    unittest.main()
