"""Point 54: deals one by one."""

import random
import unittest

from enoughhands.crews import Crew
from enoughhands.dealranks import deals, every_deal, nth_deal, number_of_deal
from enoughhands.errors import BadAway, BadDeal, BadNumber, BadTasks, NoDeal, TooMany
from enoughhands.plans import Plan

from tests import people, plain
from tests.test_hands import TASKS, cases


class Ranks(plain.Raises, unittest.TestCase):

    def test_all_deals(self):
        sizes = set()
        rng = random.Random(501)
        for text, told, tasks, given, away, _ in cases(502, 300):
            crew = Crew(text)
            with self.subTest(text, tasks=tasks, given=given, away=away):
                wanted = people.deals_of(told, tasks, given, away)
                sizes.add(len(wanted))
                self.assertEqual(deals(crew, tasks, given, away), len(wanted))
                self.assertEqual(every_deal(crew, tasks, given, away), tuple(wanted))
                for number, deal in list(enumerate(wanted))[::1 + len(wanted) // 12]:
                    self.assertEqual(nth_deal(crew, tasks, given, away, number), deal)
                    self.assertEqual(number_of_deal(crew, tasks, given, away, deal), number)
                for number in (len(wanted), -1, True, False, None, "0"):
                    self.raises(BadNumber, number, nth_deal, crew, tasks, given, away, number)
                for deal in rng.choices(people.all_deals(told[0], tasks), k=5):
                    if deal not in wanted:
                        self.raises(NoDeal, deal, number_of_deal, crew, tasks, given, away, deal)
        self.assertTrue({0, 1, 2, 3, 4} <= sizes and max(sizes) > 20)

    def test_about_200(self):
        rows = {}
        for ann in range(9):
            for few in ("", "\nfew 2 a b c d e f g h", "\nunlike a b c", "\nmost bob 3", "\nfew 3 a b c d e f g h"):
                text = "may ann " + " ".join("abcdefgh"[:max(1, ann)]) + "\nmay bob a b c d e f g h\nmay cat a b g" + few
                rows[deals(Crew(text), tuple("abcdefgh"), (), ())] = text
        self.assertTrue(min(rows) < 200 < max(rows))
        for many, text in rows.items():
            wanted = people.deals_of(people.read(text), tuple("abcdefgh"))
            self.assertEqual(many, len(wanted))
            if many > 200:
                self.raises(TooMany, 200, every_deal, Crew(text), tuple("abcdefgh"), (), ())
            else:
                self.assertEqual(every_deal(Crew(text), tuple("abcdefgh"), (), ()), tuple(wanted))

    def test_just_200(self):
        # Five people for three tasks, two for one more less 50, by what duties bar.
        five = "\n".join(f"may {person} a b c d" for person in people.PEOPLE)
        found = {}
        for duties in ("unlike a b", "unlike a b c", "same a b", "most ann 1", "most ann 2", "most ann 3", "few 2 a b c d",
                       "few 3 a b c d", "unlike a b\nunlike c d", "few 1 a b", "most ann 1\nmost bob 1\nmost cat 1",
                       "unlike a b\nmost ann 1", "unlike a b\nunlike b c\nmost ann 1", "unlike a b\nmost ann 0",
                       "same a b\nunlike c d", "unlike a b c\nunlike c d", "unlike a b c\nmost ann 1"):
            told = people.read(five + "\n" + duties)
            found[len(people.deals_of(told, TASKS))] = five + "\n" + duties
        found[200] = "\n".join(f"may {person} a b c" + (" d" if person in ("ann", "bob") else "")
                               for person in people.PEOPLE) + "\nunlike a b"
        self.assertEqual(len(people.deals_of(people.read(found[200]), TASKS)), 200)
        for many, text in found.items():
            if many > 200:
                self.raises(TooMany, 200, every_deal, Crew(text), TASKS, (), ())
            else:
                self.assertEqual(every_deal(Crew(text), TASKS, (), ()), tuple(people.deals_of(people.read(text), TASKS)))

    def test_very_many(self):
        eight = tuple("abcdefgh")
        crew = Crew("\n".join(f"may {person} a b c d e f g h" for person in people.PEOPLE))
        self.assertEqual(deals(crew, eight, (), ()), 5 ** 8)
        for number in (0, 1, 4, 5, 390624, 123456):
            figures = [number // 5 ** (7 - at) % 5 for at in range(8)]
            deal = tuple((task, people.PEOPLE[figure]) for task, figure in zip(eight, figures))
            self.assertEqual(nth_deal(crew, eight, (), (), number), deal)
            self.assertEqual(number_of_deal(crew, eight, (), (), deal), number)
        self.raises(BadNumber, 390625, nth_deal, crew, eight, (), (), 390625)

    def test_edges(self):
        crew = Crew("may ann a\nmay bob a b")
        self.assertEqual(deals(crew=crew, tasks=(), given=(), away=("ann", "bob")), 1)
        self.assertEqual(every_deal(crew=crew, tasks=(), given=(), away=()), ((),))
        self.assertEqual(nth_deal(crew=crew, tasks=(), given=(), away=(), number=0), ())
        self.assertEqual(number_of_deal(crew=crew, tasks=(), given=(), away=(), deal=()), 0)
        self.assertEqual(deals(crew, ("x",), (), ()), 0)
        self.assertEqual(every_deal(crew, ("x",), (), ()), ())
        self.raises(BadNumber, 0, nth_deal, crew, ("x",), (), (), 0)
        # Who is away has what is given, and nothing else.
        given = (("a", "ann"),)
        self.assertEqual(every_deal(crew, ("a", "b"), given, ("ann",)), ((("a", "ann"), ("b", "bob")),))
        self.assertEqual(nth_deal(crew, ("a", "b"), given, ("ann",), 0), (("a", "ann"), ("b", "bob")))
        self.assertEqual(number_of_deal(crew, ("a", "b"), given, ("ann",), (("a", "ann"), ("b", "bob"))), 0)
        self.raises(NoDeal, (("a", "bob"), ("b", "bob")), number_of_deal, crew, ("a", "b"), given, (),
                    (("a", "bob"), ("b", "bob")))
        self.raises(NoDeal, (("a", "ann"), ("b", "bob")), number_of_deal, crew, ("a", "b"), (), ("ann",),
                    (("a", "ann"), ("b", "bob")))

    def test_errors(self):
        crew, tasks, right = Crew("may ann a\nmay bob a b"), ("a", "b"), (("a", "ann"), ("b", "bob"))
        for call, more in ((deals, ()), (every_deal, ()), (nth_deal, (None,)), (number_of_deal, (None,))):
            self.raises(BadTasks, None, call, crew, None, None, None, *more)
            self.raises(BadDeal, None, call, crew, tasks, None, None, *more)
            self.raises(BadAway, None, call, crew, tasks, (), None, *more)
            for value in plain.odd_values(Plan("a"), crew):
                if not plain.alike(value, ()):
                    self.raises(BadDeal, value, call, crew, tasks, value, None, *more)
                    self.raises(BadAway, value, call, crew, tasks, (), value, *more)
        for value in plain.odd_values(Plan("a"), crew):
            if not plain.is_int(value) or value not in (0, 1):
                self.raises(BadNumber, value, nth_deal, crew, tasks, (), (), value)
            self.raises(NoDeal, value, number_of_deal, crew, tasks, (), (), value)
        for value in plain.near(right):
            if not plain.alike(value, (("a", "bob"), ("b", "bob"))):
                self.raises(NoDeal, value, number_of_deal, crew, tasks, (), (), value)


if __name__ == "__main__":
    unittest.main()
