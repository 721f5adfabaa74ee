"""Point 52: hands."""

import random
import unittest

from enoughhands.crews import Crew
from enoughhands.hands import is_hands, reached
from enoughhands.plans import Plan

from tests import people, plain

TASKS = ("a", "b", "c", "d")


def cases(seed, many, tasks=TASKS, most_people=3):
    """Crews with tasks, given and away, and a greatest number of people."""
    rng = random.Random(seed)
    for text in people.some_crews(rng, many, tasks, most_people, 4):
        told = people.read(text)
        yield (text, told, *people.some_told(rng, told, tasks), rng.randint(0, len(told[0]) + 1))


class Hands(plain.Raises, unittest.TestCase):

    def test_reached(self):
        rng = random.Random(411)
        empty = 0
        for text, told, tasks, given, away, most in cases(412, 200):
            with self.subTest(text, tasks=tasks, given=given, away=away, most=most):
                crew = Crew(text)
                wanted = people.reached(told, tasks, given, away, most)
                self.assertEqual(reached(crew, tasks, given, away, most), wanted)
                empty += wanted[-1] == ()
                value = is_hands(crew, tasks, given, away, most, wanted)
                self.assertIs(value, people.is_hands(told, tasks, given, away, most, wanted))
                deals = [deal for deal in people.deals_of(told, tasks, given, away) if people.people_in(deal) <= most]
                self.assertIs(value, not deals)
                near = plain.near(wanted)
                for changed in rng.sample(near, min(15, len(near))):
                    self.assertIs(is_hands(crew, tasks, given, away, most, changed),
                                  people.is_hands(told, tasks, given, away, most, changed), changed)
        self.assertGreater(empty, 10)

    def test_other_stands(self):
        """Hands with stands that are not reached, with whatever counts, if what they lead to is there."""
        rng = random.Random(413)
        seen = set()
        for text, told, tasks, given, away, most in cases(414, 120, TASKS[:3]):
            crew = Crew(text)
            for _ in range(4):
                value = [set(stands) for stands in people.reached(told, tasks, given, away, most)]
                for _ in range(rng.randint(1, 2)):
                    lot = tuple(sorted(rng.sample(tasks, rng.randint(0, len(tasks)))))
                    counts = tuple(rng.choice((0, 1, 2, 20)) for _ in range(1 + len(people.few(told))))
                    value[rng.randrange(len(value))].add((lot, counts))
                if rng.random() < 0.6:
                    value = self.closed(told, tasks, given, away, most, value)
                value = tuple(tuple(sorted(stands)) for stands in value)
                with self.subTest(text, tasks=tasks, given=given, away=away, most=most, value=value):
                    wanted = people.is_hands(told, tasks, given, away, most, value)
                    self.assertIs(is_hands(crew, tasks, given, away, most, value), wanted)
                    seen.add(wanted)
        self.assertEqual(seen, {True, False})

    def closed(self, told, tasks, given, away, most, value):
        """The value with all stands to which its stands lead."""
        for at, person in enumerate(list(told[0])[1:]):
            for stand in sorted(value[at]):
                for share in people.shares(told, tasks, given, away, person):
                    if not set(share) & set(stand[0]):
                        later = people.leads(told, stand, share)
                        if not people.is_great(told, most, later):
                            value[at + 1].add(later)
        return value

    def test_edges(self):
        crew = Crew("may ann a b\nmay bob b\nfew 1 a b")
        start = ((), (0, 0))
        self.assertEqual(reached(crew=crew, tasks=("a", "b"), given=(), away=(), most=0), ((start,), (start,)))
        self.assertIs(is_hands(crew=crew, tasks=("a", "b"), given=(), away=(), most=0, value=((start,), (start,))), True)
        # Without tasks, all are taken from the beginning: there are no hands.
        self.assertEqual(reached(crew, (), (), (), 0), ((start,), (start,)))
        self.assertIs(is_hands(crew, (), (), (), 0, ((start,), (start,))), False)
        # Bob alone may do b of both, few 1: what is too great is not there.
        self.assertEqual(reached(crew, ("a", "b"), (("b", "bob"),), (), 5),
                         ((start, (("a",), (1, 1))), ((("b",), (1, 1)),)))
        # Given what is not kept: nobody comes on.
        self.assertEqual(reached(crew, ("a",), (("a", "bob"),), (), 5), ((start,), ()))
        self.assertIs(is_hands(crew, ("a",), (("a", "bob"),), (), 5, ((start,), ())), True)
        self.assertIs(is_hands(crew, ("a",), (("a", "bob"),), (), 5, ((), ())), False)
        # A stand with all tasks in the last tuple is wrong even if its count is too great.
        self.assertIs(is_hands(crew, ("a",), (("a", "bob"),), (), 5, ((start,), ((("a",), (9, 9)),))), False)
        self.assertIs(is_hands(crew, ("a",), (("a", "bob"),), (), 5, ((start, (("a",), (9, 9))), ())), True)

    def test_most(self):
        crew = Crew("may ann a\nmay bob b\nmay cat c\nmay dan d\nmay eve e")
        tasks = tuple("abcde")
        told = people.read(crew.text)
        for most in range(6):
            value = reached(crew, tasks, (), (), most)
            self.assertEqual(value, people.reached(told, tasks, (), (), most))
            self.assertEqual(len(value[-1]), [1, 6, 16, 26, 31, 32][most])
            self.assertIs(is_hands(crew, tasks, (), (), most, value), most < 5)
            # Hands for more people are hands for fewer.
            for fewer in range(most):
                self.assertIs(is_hands(crew, tasks, (), (), fewer, value), most < 5)

    def test_all_may_do_all(self):
        eight = "a b c d e f g h"
        crew = Crew("\n".join(f"may {person} {eight}" for person in people.PEOPLE) + "\nfew 2 a b c\nfew 3 d e f g")
        tasks = tuple(eight.split())
        value = reached(crew, tasks, (), (), 5)
        self.assertEqual(len(value), 5)
        self.assertIs(is_hands(crew, tasks, (), (), 5, value), False)
        self.assertIs(is_hands(crew, tasks, (), (), 0, reached(crew, tasks, (), (), 0)), True)

    def test_other_values(self):
        for text, tasks in (("may ann a", ("a", "b")), ("may ann a\nmay bob a\nfew 1 a", ("a", "b")), ("may ann a", ())):
            crew, told = Crew(text), people.read(text)
            for value in plain.odd_values(Plan("a"), crew):
                self.assertIs(is_hands(crew, tasks, (), (), 5, value),
                              people.is_hands(told, tasks, (), (), 5, value), value)


if __name__ == "__main__":
    unittest.main()
