"""Point 51: shares, and what part 5 takes as told."""

import random
import unittest

from enoughhands.crews import Crew
from enoughhands.dealing import able, dealt, fewest, needed, shows_dealt, shows_fewest
from enoughhands.errors import BadAway, BadDeal, BadNumber, BadShare, BadStand, BadTasks, NoPerson
from enoughhands.hands import is_hands, reached
from enoughhands.plans import Plan
from enoughhands.shares import leads, shares

from tests import people, plain

TASKS = ("a", "b", "c", "d", "e")
# Each call of this part, with what stands behind crew, tasks, given and away.
CALLS = [(shares, ("ann",)), (reached, (5,)), (is_hands, (5, None)), (dealt, (5,)), (shows_dealt, (5, None)),
         (fewest, ()), (shows_fewest, (None,)), (able, ()), (needed, ())]


class Shares(plain.Raises, unittest.TestCase):

    def test_shares(self):
        rng = random.Random(401)
        sizes = set()
        for text in people.some_crews(rng, 200, TASKS, 3, 4):
            crew, told = Crew(text), people.read(text)
            tasks, given, away = people.some_told(rng, told, TASKS)
            for person in told[0]:
                with self.subTest(text, tasks=tasks, given=given, away=away, person=person):
                    wanted = tuple(people.shares(told, tasks, given, away, person))
                    self.assertEqual(shares(crew, tasks, given, away, person), wanted)
                    sizes.add(len(wanted))
        self.assertTrue({0, 1, 2, 4, 8} < sizes)

    def test_edges(self):
        eight = "a b c d e f g h"
        crew = Crew(f"may ann {eight}\nmay bob a\nmost ann 7\nsame a b\nunlike c d")
        tasks = tuple(eight.split())
        self.assertEqual(shares(crew=crew, tasks=tasks, given=(), away=(), person="ann"),
                         tuple(people.shares(people.read(crew.text), tasks, (), (), "ann")))
        # Bob may not do b, so not a either, as long as b is among the tasks.
        self.assertEqual(shares(crew, tasks, (), (), "bob"), ((),))
        self.assertEqual(shares(crew, ("a", "c"), (), (), "bob"), ((), ("a",)))
        self.assertEqual(shares(crew, ("a", "b"), (("a", "bob"),), (), "bob"), ())
        self.assertEqual(shares(crew, ("a", "b"), (("a", "bob"),), (), "ann"), ((),))
        # What is given need not be kept; who is away has just this.
        self.assertEqual(shares(crew, ("c", "d"), (("c", "bob"), ("d", "bob")), (), "bob"), ())
        self.assertEqual(shares(crew, ("c", "d"), (("c", "ann"),), ("ann",), "ann"), (("c",),))
        self.assertEqual(shares(crew, ("c", "d"), (), ("ann", "bob"), "ann"), ((),))
        self.assertEqual(shares(crew, (), (), (), "ann"), ((),))
        self.assertEqual(shares(Crew("may ann a\nmost ann 0"), ("a",), (), (), "ann"), ((),))
        self.assertEqual(shares(crew, ("x", "y"), (), (), "ann"), ((),))

    def test_errors_of_part_5(self):
        crew = Crew("may ann a b\nmay bob b c")
        tasks, given, away = ("a", "b", "c"), (("a", "bob"), ("b", "ann")), ("ann", "bob")
        wrong_tasks = [tuple("abcdefghi"), ("b", "a"), ("a", "a"), ["a"], ("A",)]
        wrong_given = [(("d", "ann"),), (("b", "ann"), ("a", "bob")), (("a", "cat"),), [("a", "ann")], (("a", "ann"), ("a", "bob"))]
        wrong_away = [("bob", "ann"), ("ann", "ann"), ("cat",), ["ann"], "ann", (("ann",),), ("ann", None)]
        for call, more in CALLS:
            call(crew, tasks, given, away, *more)
            call(crew, tasks=tasks, given=given, away=away, **dict(zip(("person", "value"), more)) if call is shares
                 else {"value": None} if call is shows_fewest else dict(zip(("most", "value"), more)))
            for value in wrong_tasks + [one for one in plain.odd_values(Plan("a"), crew) if not people_lot(one)]:
                self.raises(BadTasks, value, call, crew, value, None, None, *more)
            for value in wrong_given + [one for one in plain.odd_values(Plan("a"), crew) if not plain.alike(one, ())]:
                self.raises(BadDeal, value, call, crew, tasks, value, None, *more)
            for value in wrong_away + [one for one in plain.odd_values(Plan("a"), crew) if not plain.alike(one, ())]:
                self.raises(BadAway, value, call, crew, tasks, given, value, *more)
            for value in plain.near(given):
                if not people.is_deal({"ann": 1, "bob": 1}, value) or not {pair[0] for pair in value} <= set(tasks):
                    self.raises(BadDeal, value, call, crew, tasks, value, away, *more)
            for value in plain.near(away):
                if value not in (("ann",), ("bob",)):
                    self.raises(BadAway, value, call, crew, tasks, given, value, *more)
            # Of two wrong ones the first counts, and what stands behind comes last.
            behind = tuple(None for _ in more)
            self.raises(BadTasks, None, call, crew, None, None, None, *behind)
            self.raises(BadDeal, (("a", "ann"),), call, crew, ("b",), (("a", "ann"),), None, *behind)
            self.raises(BadAway, ("cat",), call, crew, tasks, (), ("cat",), *behind)
        for value in plain.odd_values(Plan("a"), crew) + ["cat", ("ann",)]:
            self.raises(NoPerson, value, shares, crew, tasks, given, away, value)
            if not plain.is_int(value) or not 0 <= value <= 5:
                self.raises(BadNumber, value, reached, crew, tasks, given, away, value)
                self.raises(BadNumber, value, is_hands, crew, tasks, given, away, value, None)
                self.raises(BadNumber, value, dealt, crew, tasks, given, away, value)
                self.raises(BadNumber, value, shows_dealt, crew, tasks, given, away, value, None)
        for value in (-1, 6):
            self.raises(BadNumber, value, dealt, crew, tasks, given, away, value)


def people_lot(value):
    return type(value) is tuple and all(type(one) is str and one.isalpha() and one.islower() for one in value) and (
        list(value) == sorted(set(value)))


class Leads(plain.Raises, unittest.TestCase):

    def test_leads(self):
        rng = random.Random(402)
        for text in people.some_crews(rng, 150, TASKS, 3, 6):
            crew, told = Crew(text), people.read(text)
            tasks = people.some_told(rng, told, TASKS)[0]
            for _ in range(5):
                one = tuple(sorted(rng.sample(tasks, rng.randint(0, len(tasks)))))
                left = [task for task in tasks if task not in one]
                share = tuple(sorted(rng.sample(left, rng.randint(0, len(left)))))
                stand = (one, tuple(rng.choice((0, 1, 2, 7, 10 ** 20)) for _ in range(1 + len(people.few(told)))))
                with self.subTest(text, tasks=tasks, stand=stand, share=share):
                    self.assertEqual(leads(crew, tasks, stand, share), people.leads(told, stand, share))

    def test_errors(self):
        crew = Crew("may ann a b\nfew 1 a x\nmost ann 2\nfew 2 b")
        tasks, stand = ("a", "b", "c"), (("b",), (1, 0, 1))
        self.assertEqual(leads(crew=crew, tasks=tasks, stand=stand, share=("a", "c")), (("a", "b", "c"), (2, 1, 1)))
        self.assertEqual(leads(crew, tasks, stand, ()), stand)
        self.assertEqual(leads(Crew("may ann a"), (), ((), (0,)), ()), ((), (0,)))
        told = people.read(crew.text)
        wrong = [(("b",), (1, 0)), (("b",), (1, 0, 1, 0)), (("d",), (0, 0, 0)), (("b", "a"), (0, 0, 0)),
                 (["b"], (0, 0, 0)), (("b",), [0, 0, 0]), (("b",), (0, True, 0)), (("b",), (0, -1, 0)), (("b",),),
                 [("b",), (0, 0, 0)], (("b",), (0, 0, 0), 0), (("b", "b"), (0, 0, 0)), (("b",), ("0", 0, 0))]
        for value in wrong + plain.odd_values(Plan("a"), crew) + [
                one for one in plain.near(stand) if not people.is_stand(told, tasks, one)]:
            self.raises(BadStand, value, leads, crew, tasks, value, None)
        for value in [one for one in plain.odd_values(Plan("a"), crew) if not people_lot(one)]:
            self.raises(BadTasks, value, leads, crew, value, None, None)
        self.raises(BadTasks, tuple("abcdefghi"), leads, crew, tuple("abcdefghi"), None, None)
        for value in [("b",), ("a", "b"), ("c", "a"), ("a", "a"), ("d",), ["a"], "a", ("a", "d")] + [
                one for one in plain.odd_values(Plan("a"), crew) if one not in ((), ("a",)) or type(one) is not tuple]:
            self.raises(BadShare, value, leads, crew, tasks, stand, value)


if __name__ == "__main__":
    unittest.main()
