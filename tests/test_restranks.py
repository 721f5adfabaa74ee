"""Point 64: rests and events."""

import itertools
import random
import unittest

from enoughhands.errors import BadNumber, NoRest
from enoughhands.finishing import finish
from enoughhands.restranks import leaving, nth_rest, number_of_rest, open_events, rests, shut_events, teams
from enoughhands.works import Works

from tests import daily, people, plain
from tests.test_days import SHOP
from tests.test_works import HOUSE


class Ranks(plain.Raises, unittest.TestCase):

    def test_all_rests(self):
        rng = random.Random(551)
        sizes = set()
        for told, day, away in daily.cases(rng, 250):
            works = Works(told.text)
            with self.subTest(told.text, day=day, away=away):
                wanted = sorted(told.rests(day, away))
                sizes.add(len(wanted))
                self.assertEqual(rests(works, day, away), len(wanted))
                for number, rest in list(enumerate(wanted))[::1 + len(wanted) // 8]:
                    self.assertEqual(nth_rest(works, day, away, number), rest)
                    self.assertEqual(number_of_rest(works, day, away, rest), number)
                for number in (len(wanted), -1, True, None, "0", (0,)):
                    self.raises(BadNumber, number, nth_rest, works, day, away, number)
                others = told.rests(day, ())
                values = rng.sample(others, min(3, len(others))) + plain.near(wanted[0] if wanted else ())[:6]
                for value in values:
                    if not any(plain.alike(value, rest) for rest in wanted):
                        self.raises(NoRest, value, number_of_rest, works, day, away, value)
        self.assertTrue({0, 1, 2} <= sizes and max(sizes) > 20, sizes)

    def test_very_many(self):
        eight = "a b c d e f g h"
        works = Works("\n".join(["stock 0", f"plan beside({eight.replace(' ', ',')})"]
                                + [f"may {person} {eight}" for person in people.PEOPLE]))
        self.assertEqual(rests(works, (), ()), 40320 * 5 ** 8)
        first = tuple((task, "ann") for task in eight.split())
        self.assertEqual(nth_rest(works, (), (), 0), first)
        self.assertEqual(nth_rest(works, (), (), 40320 * 5 ** 8 - 1), tuple((task, "eve") for task in eight.split()[::-1]))
        number = 12345678901
        rest = nth_rest(works, (), (), number)
        self.assertEqual(number_of_rest(works, (), (), rest), number)
        self.raises(BadNumber, 40320 * 5 ** 8, nth_rest, works, (), (), 40320 * 5 ** 8)
        self.assertEqual(rests(works, rest[:5], ("ann",)), 6 * 4 ** 3)
        self.assertEqual(rests(works, rest[:5], people.PEOPLE), 0)
        self.assertEqual(rests(works, rest, people.PEOPLE), 1)

    def test_events(self):
        rng = random.Random(552)
        seen = set()
        for told, day, away in daily.cases(rng, 250):
            works = Works(told.text)
            with self.subTest(told.text, day=day, away=away):
                events = told.events(day, away)
                wanted = tuple(event for event in events if told.has_rests(day + (event,), away))
                shut = tuple(event for event in events if event not in wanted)
                self.assertEqual(open_events(works, day, away), wanted)
                self.assertEqual(shut_events(works, day, away), shut)
                seen.add((bool(wanted), bool(shut)))
        self.assertEqual(len(seen), 4)

    def test_leaving_and_teams(self):
        rng = random.Random(553)
        seen = set()
        for told, day, away in daily.cases(rng, 250):
            works = Works(told.text)
            with self.subTest(told.text, day=day, away=away):
                here = [person for person in sorted(told.mays) if person not in away]
                wanted = tuple(person for person in here if told.has_rests(day, away + (person,)))
                self.assertEqual(leaving(works, day, away), wanted)
                by = {tuple(sorted({person for task, person in rest})) for rest in told.rests(day, away)}
                enough = [lot for many in range(len(here) + 1) for lot in itertools.combinations(here, many)
                          if any(set(some) <= set(lot) for some in by)]
                least = [lot for lot in enough if not any(set(some) < set(lot) for some in enough)]
                self.assertEqual(teams(works, day, away), tuple(sorted(least)))
                seen.add(len(least))
                if by:
                    for person in here:
                        self.assertEqual(person not in wanted, all(person in lot for lot in least))
        self.assertTrue({0, 1, 2} <= seen)

    def test_edges(self):
        works = Works(HOUSE)
        done = (("buy", "ann"), ("cook", "bob"), ("lay", "bob"), ("sell", "ann"))
        for away in ((), ("bob",), ("ann", "bob")):
            self.assertEqual(rests(works=works, day=done, away=away), 1)
            self.assertEqual(nth_rest(works=works, day=done, away=away, number=0), ())
            self.assertEqual(number_of_rest(works=works, day=done, away=away, events=()), 0)
            self.assertEqual(teams(works=works, day=done, away=away), ((),))
            self.assertEqual(open_events(works=works, day=done, away=away), ())
            self.assertEqual(shut_events(works=works, day=done, away=away), ())
        self.assertEqual(leaving(works=works, day=done, away=()), ("ann", "bob"))
        self.assertEqual(leaving(works, done, ("ann",)), ("bob",))
        self.assertEqual(rests(works, (), ("ann", "bob")), 0)
        self.assertEqual(teams(works, (), ("bob",)), ())
        self.assertEqual(leaving(works, (), ("bob",)), ())
        several = Works("stock 0\nplan either(a,then(b,c))\nmay bob c\nmay cat a\nmay ann b")
        self.assertEqual(teams(several, (), ()), (("ann", "bob"), ("cat",)))
        self.assertEqual(teams(several, (("b", "ann"),), ()), (("bob",),))
        # A day that cannot be finished has only shut events.
        shop = Works(SHOP)
        self.assertEqual(open_events(shop, (("b", "bob"),), ()), ())
        self.assertEqual(shut_events(shop, (("b", "bob"),), ()), ())
        self.assertEqual(finish(shop, (("b", "bob"),), ())[0], "never")
        self.assertEqual(teams(shop, (("b", "bob"),), ()), ())
        low = works.with_stock(5)
        self.assertEqual(open_events(low, (), ()), (("buy", "ann"),))
        self.assertEqual(open_events(works.with_stock(4), (), ()), ())
        self.assertEqual(shut_events(works.with_stock(4), (), ()), (("buy", "ann"),))
        self.assertEqual(shut_events(works.with_stock(3), (), ()), ())

    def test_errors(self):
        works, told = Works(HOUSE), daily.Works(HOUSE)
        for value in plain.odd_values(works):
            if not plain.alike(value, 0) and not plain.alike(value, 1):
                self.raises(BadNumber, value, nth_rest, works, (), (), value)
            self.raises(NoRest, value, number_of_rest, works, (), (), value)
        right = told.rests((), ())[0]
        for value in plain.near(right):
            self.raises(NoRest, value, number_of_rest, works, (), (), value)
        self.raises(NoRest, right, number_of_rest, works, (), ("bob",), right)
        self.raises(NoRest, right, number_of_rest, works, right[:1], (), right)


if __name__ == "__main__":
    unittest.main()
