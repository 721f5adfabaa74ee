"""Point 56: what is wanting."""

import random
import unittest

from enoughhands.crews import Crew
from enoughhands.errors import BadTasks, NotSimple
from enoughhands.plans import Plan
from enoughhands.wanting import shows_wanting, wanting

from tests import people, plain

TASKS = ("a", "b", "c", "d", "e")


class Wanting(plain.Raises, unittest.TestCase):

    def is_right(self, told, tasks, value):
        mays, duties = told
        if type(value) is not tuple or len(value) != 2:
            return False
        if plain.alike(value[0], "deal"):
            return any(plain.alike(value[1], deal) for deal in people.deals_of(told, tasks))
        if not plain.alike(value[0], "want") or not any(plain.alike(value[1], lot) for lot in people.lots_of(tasks)):
            return False
        rooms = 0
        for person in mays:
            if set(mays[person]) & set(value[1]):
                rooms += min([8] + [duty[2] for duty in duties if duty[1] == person])
        return len(value[1]) > rooms

    def crews(self, rng, many):
        for text in people.some_crews(rng, many, TASKS, 4, 0):
            mays = people.read(text)[0]
            duties = {("most", rng.choice(list(mays)), rng.choice((0, 1, 1, 2, 3, 8))) for _ in range(rng.randint(0, 4))}
            yield "\n".join([text] + [people.line_of(duty) for duty in sorted(duties)])

    def test_wanting(self):
        rng = random.Random(511)
        seen = set()
        for text in self.crews(rng, 250):
            told, crew = people.read(text), Crew(text)
            tasks = people.some_told(rng, told, TASKS)[0]
            with self.subTest(text, tasks=tasks):
                value = wanting(crew, tasks)
                seen.add(value[0])
                self.assertEqual(value[0], "deal" if people.deals_of(told, tasks) else "want")
                self.assertTrue(self.is_right(told, tasks, value))
                self.assertIs(shows_wanting(crew, tasks, value), True)
                near = plain.near(value)
                values = rng.sample(near, min(15, len(near)))
                values += [("want", lot) for lot in rng.sample(people.lots_of(TASKS), 6)]
                values += [("deal", deal) for deal in rng.choices(people.all_deals(told[0], tasks), k=4)]
                for changed in values:
                    self.assertIs(shows_wanting(crew, tasks, changed), self.is_right(told, tasks, changed), changed)
        self.assertEqual(seen, {"deal", "want"})

    def test_edges(self):
        crew = Crew("may ann a b c d e f g h\nmost ann 7\nmost ann 8")
        eight = tuple("abcdefgh")
        self.assertEqual(wanting(crew=crew, tasks=()), ("deal", ()))
        self.assertEqual(wanting(crew, eight), ("want", eight))
        self.assertEqual(wanting(crew, eight[1:])[0], "deal")
        self.assertEqual(wanting(Crew("may ann a"), ("a", "x")), ("want", ("x",)))
        self.assertEqual(wanting(Crew("may ann a\nmost ann 0"), ("a",)), ("want", ("a",)))
        self.assertIs(shows_wanting(crew=crew, tasks=eight, value=("want", eight)), True)
        self.assertIs(shows_wanting(Crew("may ann a"), ("a", "x"), ("want", ("a", "x"))), False)
        self.assertIs(shows_wanting(Crew("may ann a"), ("x", "y"), ("want", ("x", "y"))), True)
        self.assertIs(shows_wanting(Crew("may ann a"), ("x",), ("want", ("x", "y"))), False)
        self.assertIs(shows_wanting(Crew("may ann a"), ("x",), ("want", ())), False)

    def test_errors(self):
        crew = Crew("may ann a b\nmost ann 1\nmost ann 2\nfew 1 a\nunlike a b")
        for call in (wanting, lambda crew, tasks: shows_wanting(crew, tasks, None)):
            self.raises(NotSimple, 2, call, crew, ("a",))
            self.raises(NotSimple, 0, call, Crew("may ann a b\nsame a b"), ())
            self.raises(NotSimple, 0, call, Crew("may ann a b\nunlike c d"), ())
            self.raises(BadTasks, None, call, crew, None)
            self.raises(BadTasks, tuple("abcdefghi"), call, crew, tuple("abcdefghi"))
            for value in plain.odd_values(Plan("a"), crew) + [("b", "a"), ("a", "a"), ["a"], ("A",)]:
                if type(value) is not tuple or not all(type(one) is str and one.islower() for one in value) or (
                        list(value) != sorted(set(value))):
                    self.raises(BadTasks, value, call, crew, value)
        crew = Crew("may ann a\nmost ann 1")
        values = plain.odd_values(Plan("a"), crew)
        for value in values + [(word, value) for word in ("deal", "want") for value in values]:
            self.assertIs(shows_wanting(crew, ("a", "b"), value),
                          self.is_right(people.read(crew.text), ("a", "b"), value), value)


if __name__ == "__main__":
    unittest.main()
