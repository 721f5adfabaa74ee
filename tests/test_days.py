"""Point 62: days."""

import random
import unittest

from enoughhands.days import is_finished, left, level, wrong
from enoughhands.errors import BadDay
from enoughhands.works import Works

from tests import daily, plain
from tests.test_works import HOUSE

SHOP = "stock 9\nplan then(either(a,b),c)\nmay ann a b\nmay bob b c\nunlike b c"


class Days(plain.Raises, unittest.TestCase):

    def check(self, works, told, value):
        wanted = told.wrong(value)
        self.assertEqual(wrong(works, value), wanted, value)
        if wanted:
            for call in (level, left, is_finished):
                self.raises(BadDay, value, call, works, value)
            return
        self.assertEqual(level(works, value), told.level(value))
        self.assertIs(is_finished(works, value), told.is_finished(value))
        rest = left(works, value)
        text = plain.rest_text(told.plan, [task for task, person in value])
        self.assertEqual(rest if rest is None else rest.text, text)

    def test_days(self):
        rng = random.Random(531)
        words = set()
        for told, day, _ in daily.cases(rng, 150):
            works = Works(told.text)
            with self.subTest(told.text, day=day):
                self.check(works, told, day)
                for _ in range(8):
                    events = [(rng.choice(told.tasks), rng.choice(list(told.mays))) for _ in range(rng.randint(1, 5))]
                    value = day[:rng.randint(0, len(day))] + tuple(events)
                    self.check(works, told, value)
                    words.add(wrong(works, value)[1:])
                near = plain.near(day)
                for value in rng.sample(near, min(12, len(near))):
                    self.check(works, told, value)
                for rest in told.rests(day, ())[:3]:
                    self.check(works, told, day + rest)
                    self.check(works, told, day + rest + rest[-1:])
                    self.check(works, told, day + rest + ((told.tasks[0], list(told.mays)[0]),))
        self.assertTrue({("form",), ("plan",), ("stock",), ("may",), ("duty",)} >= words - {()})
        self.assertTrue({("plan",), ("stock",), ("may",), ("duty",)} <= words)

    def test_the_first_word_that_applies(self):
        text = "stock 1\nplan then(a,beside(b,c))\ntask a 1 -1\ntask b 1 0\nmay ann a c\nmay bob a b\nmost bob 0\nunlike a c"
        works, told = Works(text), daily.Works(text)
        for value, wanted in (
                ((), ()), ((("a", "ann"),), ()), ((("a", "bob"),), (0, "duty")), ((("b", "ann"),), (0, "plan")),
                ((("a", "ann"), ("b", "ann")), (1, "stock")), ((("a", "ann"), ("c", "bob")), (1, "may")),
                ((("a", "ann"), ("c", "ann")), (1, "duty")), ((("b", "cat"),), (0, "form")), ((("x", "ann"),), (0, "form")),
                ((("b", "ann"), ("a", "bob")), (0, "plan")), ((("a", "ann"), ("a", "bob")), (1, "plan")),
                ((("a", "ann"), None), (1, "form")), (None, (0, "form")), ([], (0, "form")), ("", (0, "form")),
                ((["a", "ann"],), (0, "form")), ((("a", "ann", 1),), (0, "form")), ((("a", "bob"), None), (0, "duty"))):
            self.assertEqual(wrong(works=works, value=value), wanted)
            self.check(works, told, value)

    def test_any_value(self):
        for text in (HOUSE, SHOP, "stock 0\nplan a\nmay a a b"):
            works, told = Works(text), daily.Works(text)
            for value in plain.odd_values(works, works.plan, works.crew) + [(("a", "a"),), (("a", "a"), ("a", "a")), ((),)]:
                self.check(works, told, value)

    def test_names_of_arguments(self):
        works = Works(HOUSE)
        self.assertEqual(level(works=works, day=(("buy", "ann"),)), 2)
        self.assertEqual(left(works=works, day=()), works.plan)
        self.assertIs(is_finished(works=works, day=()), False)
        whole = (("buy", "ann"), ("cook", "bob"), ("lay", "bob"), ("sell", "ann"))
        self.assertIs(is_finished(works, whole), True)
        self.assertIsNone(left(works, whole))
        self.assertEqual(level(works, whole), 10)


if __name__ == "__main__":
    unittest.main()
