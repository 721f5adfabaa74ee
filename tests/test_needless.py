"""Point 86: duties that change nothing."""

import random
import unittest

from enoughhands.needless import idle, needless
from enoughhands.works import Works

from tests import changes, daily
from tests.test_quarrels import BOUND
from tests.test_works import HOUSE


def all_needless(told):
    """The numbers of the duties without which there are the same rests, by all rests."""
    rests, numbers = told.rests((), ()), range(len(told.duties))
    return tuple(number for number in numbers
                 if changes.with_duties(told, [one for one in numbers if one != number]).rests((), ()) == rests)


def all_idle(told):
    """The events, of people who may do their tasks, that no rest has."""
    used = {event for rest in told.rests((), ()) for event in rest}
    events = [(task, person) for person in told.mays for task in told.mays[person] if task in told.tasks]
    return tuple(sorted(event for event in events if event not in used))


class Needless(unittest.TestCase):

    def test_by_all_rests(self):
        rng = random.Random(861)
        seen, unused = set(), set()
        for told, day, away in daily.cases(rng, 420, ("a", "b", "c", "d"), 3, 4):
            works = Works(told.text)
            with self.subTest(told.text):
                wanted, never = all_needless(told), all_idle(told)
                has_rests = bool(told.rests((), ()))
                seen.add((has_rests, len(wanted), len(told.duties)))
                unused.add((has_rests, len(never)))
                self.assertEqual(needless(works), wanted)
                self.assertEqual(idle(works), never)
        self.assertTrue({(True, 0, 1), (True, 1, 2), (True, 2, 3), (False, 1, 2), (False, 0, 1)} <= seen, seen)
        self.assertTrue({(True, 0), (True, 1), (True, 3), (False, 3)} <= unused)

    def test_each_by_itself(self):
        works = Works(BOUND)
        self.assertEqual((needless(works=works), idle(works=works)), ((0, 1, 2, 3), all_idle(daily.Works(BOUND))))
        one = Works(HOUSE + "\nunlike buy sell")
        self.assertEqual(needless(one), ())
        # Each of two that bar the same can be left out, one of them.
        two = Works("stock 0\nplan then(a,b)\nmay ann a b\nmay bob b\nunlike a b\nmost ann 1\nmost bob 1\nmost bob 2")
        self.assertEqual(needless(two), (0, 1, 2, 3))
        self.assertEqual(needless(Works(HOUSE)), ())
        eight = Works("stock 0\nplan a\nmay ann a\n" + "\n".join(f"most ann {number}" for number in range(8, 0, -1)))
        self.assertEqual(needless(eight), tuple(range(8)))

    def test_idle(self):
        self.assertEqual(idle(Works(HOUSE)), (("bake", "ann"),))
        self.assertEqual(idle(Works(HOUSE).with_stock(9)), ())
        # Tasks that the plan has not are no events; without rests all are idle.
        works = Works("stock 0\nplan then(a,b)\nmay bob b x\nmay ann b a\nunlike a b")
        self.assertEqual(idle(works), (("b", "ann"),))
        self.assertEqual(idle(Works("stock 0\nplan then(a,b)\nmay bob b\nmay ann b")), (("b", "ann"), ("b", "bob")))


if __name__ == "__main__":
    unittest.main()
