"""Point 53: dealing."""

import random
import unittest

from enoughhands.crews import Crew
from enoughhands.dealing import able, dealt, fewest, needed, shows_dealt, shows_fewest
from enoughhands.hands import reached
from enoughhands.plans import Plan

from tests import people, plain
from tests.test_hands import TASKS, cases


class Dealing(plain.Raises, unittest.TestCase):

    def is_dealt(self, told, tasks, given, away, most, value):
        if type(value) is not tuple or len(value) != 2:
            return False
        if plain.alike(value[0], "deal"):
            return any(plain.alike(value[1], deal) and people.people_in(deal) <= most
                       for deal in people.deals_of(told, tasks, given, away))
        return plain.alike(value[0], "none") and people.is_hands(told, tasks, given, away, most, value[1])

    def is_fewest(self, told, tasks, given, away, value):
        deals = people.deals_of(told, tasks, given, away)
        if type(value) is not tuple or len(value) not in (2, 4):
            return False
        if len(value) == 2:
            return plain.alike(value[0], "none") and people.is_hands(told, tasks, given, away, len(told[0]), value[1])
        least = min((people.people_in(deal) for deal in deals), default=-1)
        if not plain.alike(value[:2], ("people", least)):
            return False
        if not any(plain.alike(value[2], deal) and people.people_in(deal) == least for deal in deals):
            return False
        if least == 0:
            return plain.alike(value[3], ())
        return people.is_hands(told, tasks, given, away, least - 1, value[3])

    def test_dealt(self):
        rng = random.Random(421)
        seen = set()
        for text, told, tasks, given, away, most in cases(422, 220):
            crew = Crew(text)
            with self.subTest(text, tasks=tasks, given=given, away=away, most=most):
                deals = [deal for deal in people.deals_of(told, tasks, given, away) if people.people_in(deal) <= most]
                value = dealt(crew, tasks, given, away, most)
                seen.add(value[0])
                self.assertEqual(value[0], "deal" if deals else "none")
                self.assertTrue(self.is_dealt(told, tasks, given, away, most, value))
                self.assertIs(shows_dealt(crew, tasks, given, away, most, value), True)
                near = plain.near(value)
                values = rng.sample(near, min(15, len(near)))
                values += [("deal", deal) for deal in rng.choices(people.all_deals(told[0], tasks), k=5)]
                values += [("deal", deal) for deal in people.deals_of(told, tasks)[:3] + deals[-3:]]
                values += [("none", people.reached(told, tasks, given, away, few)) for few in (0, most, 5)]
                for changed in values:
                    self.assertIs(shows_dealt(crew, tasks, given, away, most, changed),
                                  self.is_dealt(told, tasks, given, away, most, changed), changed)
        self.assertEqual(seen, {"deal", "none"})

    def test_fewest(self):
        rng = random.Random(423)
        seen = set()
        for text, told, tasks, given, away, most in cases(424, 220):
            crew = Crew(text)
            with self.subTest(text, tasks=tasks, given=given, away=away):
                value = fewest(crew, tasks, given, away)
                seen.add(value[1] if value[0] == "people" else "none")
                self.assertTrue(self.is_fewest(told, tasks, given, away, value))
                self.assertIs(shows_fewest(crew, tasks, given, away, value), True)
                near = plain.near(value)
                deals = people.deals_of(told, tasks, given, away)
                values = rng.sample(near, min(15, len(near)))
                values += [("people", people.people_in(deal), deal, people.reached(told, tasks, given, away, most))
                           for deal in deals[:2] + deals[-2:]]
                values += [("none", people.reached(told, tasks, given, away, few)) for few in (0, most, 5)]
                if value[0] == "people":
                    values += [value[:3] + (people.reached(told, tasks, given, away, few),) for few in (0, value[1])]
                    values += [value[:2] + (deal, value[3]) for deal in deals[:3]]
                for changed in values:
                    self.assertIs(shows_fewest(crew, tasks, given, away, changed),
                                  self.is_fewest(told, tasks, given, away, changed), changed)
        self.assertTrue({0, 1, 2, "none"} <= seen)

    def test_able_and_needed(self):
        sizes = set()
        for text, told, tasks, given, away, _ in cases(425, 250):
            crew = Crew(text)
            with self.subTest(text, tasks=tasks, given=given, away=away):
                deals = people.deals_of(told, tasks, given, away)
                self.assertEqual(able(crew, tasks, given, away), tuple(sorted({pair for deal in deals for pair in deal})))
                wanted = [person for person in sorted(told[0])
                          if deals and all(person in dict(deal).values() for deal in deals)]
                self.assertEqual(needed(crew, tasks, given, away), tuple(wanted))
                sizes.add(len(wanted))
        self.assertTrue({0, 1, 2} <= sizes)

    def test_many_tasks(self):
        """Five people and eight tasks: what is told is right by itself, and as few people as there can be."""
        rng = random.Random(426)
        eight = tuple("abcdefgh")
        for text in people.some_crews(rng, 25, eight, 5, 8):
            told, crew = people.read(text), Crew(text)
            value = fewest(crew, eight, (), ())
            self.assertIs(shows_fewest(crew, eight, (), (), value), True)
            if value[0] == "people":
                self.assertTrue(people.keeps(told, value[2]) and people.people_in(value[2]) == value[1])
                self.assertEqual(dealt(crew, eight, (), (), value[1] - 1)[0], "none")
                self.assertEqual(dealt(crew, eight, (), (), value[1])[0], "deal")
                for task, person in able(crew, eight, (), ()):
                    self.assertEqual(dealt(crew, eight, ((task, person),), (), 5)[0], "deal")
                for person in crew.people:
                    word = dealt(crew, eight, (), (person,), 5)[0]
                    self.assertEqual(word, "none" if person in needed(crew, eight, (), ()) else "deal")
            else:
                self.assertEqual((able(crew, eight, (), ()), needed(crew, eight, (), ())), ((), ()))

    def test_edges(self):
        crew = Crew("may ann a b\nmay bob b c\nmost ann 1")
        self.assertEqual(dealt(crew=crew, tasks=(), given=(), away=(), most=0), ("deal", ()))
        self.assertEqual(fewest(crew=crew, tasks=(), given=(), away=()), ("people", 0, (), ()))
        self.assertIs(shows_dealt(crew=crew, tasks=(), given=(), away=(), most=0, value=("deal", ())), True)
        self.assertIs(shows_fewest(crew=crew, tasks=(), given=(), away=(), value=("people", 0, (), ())), True)
        self.assertIs(shows_fewest(crew, (), (), (), ("people", False, (), ())), False)
        self.assertEqual(able(crew=crew, tasks=(), given=(), away=()), ())
        self.assertEqual(needed(crew=crew, tasks=(), given=(), away=()), ())
        each = Crew("may eve e\nmay dan d\nmay cat c\nmay bob b\nmay ann a")
        for many in range(6):
            self.assertEqual(fewest(each, tuple("abcde"[:many]), (), ())[:2], ("people", many))
        self.assertEqual(needed(each, tuple("abcde"), (), ()), ("ann", "bob", "cat", "dan", "eve"))
        # A task that nobody may do.
        self.assertEqual(dealt(crew, ("a", "x"), (), (), 5), ("none", reached(crew, ("a", "x"), (), (), 5)))
        self.assertEqual(fewest(crew, ("x",), (), ()), ("none", ((((), (0,)),), (((), (0,)),))))
        # Somebody away who is given something, which is not kept, or is.
        self.assertEqual(dealt(crew, ("a", "b"), (("a", "ann"),), ("ann",), 5), ("deal", (("a", "ann"), ("b", "bob"))))
        self.assertEqual(dealt(crew, ("a", "b"), (("b", "ann"),), ("ann",), 5)[0], "none")
        self.assertEqual(dealt(crew, ("a", "b"), (("a", "bob"),), (), 5)[0], "none")
        self.assertEqual(dealt(crew, ("a", "b"), (("a", "ann"), ("b", "ann")), (), 5)[0], "none")
        self.assertEqual(needed(crew, ("b",), (("b", "bob"),), ("bob",)), ("bob",))
        self.assertEqual(able(crew, ("b",), (("b", "bob"),), ("bob",)), (("b", "bob"),))
        self.assertEqual(fewest(crew, ("b", "c"), (("b", "ann"),), ())[:2], ("people", 2))

    def test_other_values(self):
        for text, tasks in (("may ann a", ("a", "b")), ("may ann a\nmay bob a\nfew 1 a", ("a", "b")), ("may ann a", ())):
            crew, told = Crew(text), people.read(text)
            values = plain.odd_values(Plan("a"), crew)
            values += [(word, value) for word in ("deal", "none", "people") for value in values]
            values += [("people", value, (), ()) for value in values]
            for value in values:
                self.assertIs(shows_dealt(crew, tasks, (), (), 5, value),
                              self.is_dealt(told, tasks, (), (), 5, value), value)
                self.assertIs(shows_fewest(crew, tasks, (), (), value), self.is_fewest(told, tasks, (), (), value), value)

    def test_more(self):
        """With a task more that somebody may do, a duty less, nobody away, what could be dealt still can be."""
        rng = random.Random(427)
        for text, told, tasks, given, away, most in cases(428, 100):
            crew = Crew(text)
            if dealt(crew, tasks, given, away, most)[0] == "deal":
                self.assertEqual(dealt(crew, tasks, given, (), most)[0], "deal")
                for number in range(len(told[1])):
                    self.assertEqual(dealt(crew.without_duty(number), tasks, given, away, most)[0], "deal")
                person, task = rng.choice(crew.people), rng.choice(TASKS)
                if task not in crew.may(person):
                    self.assertEqual(dealt(crew.with_may(person, task), tasks, given, away, most)[0], "deal")


if __name__ == "__main__":
    unittest.main()
