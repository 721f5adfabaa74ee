"""Point 61: works."""

import random
import unittest

from enoughhands.crews import Crew
from enoughhands.errors import BadChoice, BadStock, BadWorks
from enoughhands.plans import Plan
from enoughhands.works import Works

from tests import daily, people, plain
from tests.test_crews import FULL

HOUSE = ("stock 6\nplan then(buy,either(bake,beside(cook,lay)),sell)\ntask bake 5 -2\ntask buy 4 -4\n"
         "task cook 1 -1\ntask sell 0 9\nmay ann buy bake sell\nmay bob cook lay")
EIGHT = "a,b,c,d,e,f,g,h"
WIDE = "\n".join(["stock 99999", f"plan beside({EIGHT})"] + [f"task {task} 9999 -9999" for task in "hgfedcba"] + [FULL])
RIGHT = [HOUSE, WIDE, "stock 0\nplan a\nmay ann a", "stock 0\nplan a\nmay ann x", "stock 5\nplan a\ntask a 0 9999\nmay ann a",
         "stock 5\nplan task\ntask task 9999 0\nmay ann task", "stock 1\nplan either(a,b)\ntask b 0 0\nmay ann a\nmost ann 0"]
WRONG = {"": 1, "stock 5": 2, "stock 5\n": 2, "stock 5\nplan a": 3, "stock 5\nplan a\n": 3, "stock 5\nplan a\ntask a 1 0": 4,
         "stock -1\nplan a\nmay ann a": 1, "stock 100000\nplan a\nmay ann a": 1, "stock 05\nplan a\nmay ann a": 1,
         "stock +5\nplan a\nmay ann a": 1, "stock  5\nplan a\nmay ann a": 1, "stock 5 \nplan a\nmay ann a": 1,
         "stock\nplan a\nmay ann a": 1, "stock 5 5\nplan a\nmay ann a": 1, "stock -0\nplan a\nmay ann a": 1,
         "Stock 5\nplan a\nmay ann a": 1, "stock five\nplan a\nmay ann a": 1, "plan a\nstock 5\nmay ann a": 1,
         "stock 5\nplan then(a)\nmay ann a": 2, "stock 5\nplan  a\nmay ann a": 2, "stock 5\nplan a \nmay ann a": 2,
         "stock 5\nplan then(a, b)\nmay ann a": 2, "stock 5\nplan\nmay ann a": 2, "stock 5\nmay ann a": 2,
         "stock 5\nplan A\nmay ann a": 2, f"stock 5\nplan beside({EIGHT},i)\nmay ann a": 2, "stock 5\nplan then(a,a)\nmay ann a": 2,
         "stock 5\nplan a\ntask b 1 0\nmay ann a": 3, "stock 5\nplan a\ntask a 1 0\ntask a 1 0\nmay ann a": 4,
         "stock 5\nplan a\ntask a 1\nmay ann a": 3, "stock 5\nplan a\ntask a 1 0 0\nmay ann a": 3,
         "stock 5\nplan a\ntask a -1 1\nmay ann a": 3, "stock 5\nplan a\ntask a 10000 0\nmay ann a": 3,
         "stock 5\nplan a\ntask a 1 -2\nmay ann a": 3, "stock 5\nplan a\ntask a 1 9999\nmay ann a": 3,
         "stock 5\nplan a\ntask a 01 0\nmay ann a": 3, "stock 5\nplan a\ntask a 1 -0\nmay ann a": 3,
         "stock 5\nplan a\ntask a 1 +1\nmay ann a": 3, "stock 5\nplan a\ntask  a 1 1\nmay ann a": 3,
         "stock 5\nplan a\nmay ann a\ntask a 1 0": 4, "stock 5\nplan a\nmay ann a\nmay ann b": 4,
         "stock 5\nplan a\ntask a 1 0\nmay ann a\nmost bob 1": 5, "stock 5\nplan a\nmost ann 1": 3,
         "stock 5\nplan a\nmay ann a\n": 4, "stock 5\nplan a\n\nmay ann a": 3, "\nstock 5\nplan a\nmay ann a": 1,
         "stock 5\nplan a\nmay ann a\nplan a": 4, HOUSE + "\nfew 0 buy": 9, WIDE + "\nunlike a c": 24}
WORDS = ["stock", "plan", "task", "may", "a", "b", "x", "then(a,b)", "0", "1", "-1", "9999", "10000", "99999", "100000", "01",
         "-0", "", "ann", "beside(a,b)", "either(a,a)", "A", "9998", "+1"]


class Texts(plain.Raises, unittest.TestCase):

    def check(self, text):
        number = daily.first_wrong(text)
        if number is not None:
            self.raises(BadWorks, number, Works, text)
            return
        works, told = Works(text), daily.Works(text)
        self.assertEqual((works.text, works.stock, works.plan.text, works.trade), (text, told.stock, told.plan, told.trade))
        self.assertEqual((works.crew.people, works.crew.duties), (tuple(told.mays), tuple(told.duties)))
        self.assertIsInstance(works.plan, Plan)
        self.assertIsInstance(works.crew, Crew)
        self.assertTrue(text.endswith(works.crew.text))

    def test_right_and_wrong(self):
        for text in RIGHT:
            with self.subTest(text):
                self.assertIsNone(daily.first_wrong(text))
                self.check(text)
        for text, number in WRONG.items():
            with self.subTest(text):
                self.raises(BadWorks, number, Works, text)
                self.assertEqual(daily.first_wrong(text), number)
        self.assertEqual(Works(text=HOUSE).text, HOUSE)

    def test_texts_near(self):
        """Texts with a line or a word out, twice, put in, exchanged or otherwise."""
        rng = random.Random(521)
        right = wrong = 0
        for text in [daily.any_works(rng) for _ in range(200)] + RIGHT * 8:
            for _ in range(8):
                changed = self.changed(rng, text)
                with self.subTest(changed):
                    self.check(changed)
                if daily.first_wrong(changed) is None:
                    right += 1
                else:
                    wrong += 1
        self.assertTrue(right > 200 and wrong > 200)

    def changed(self, rng, text):
        lines = text.split("\n")
        at, to, way = rng.randrange(min(len(lines), 7)), rng.randrange(len(lines)), rng.randrange(8)
        words = lines[at].split(" ")
        if way == 0:
            del lines[at]
        elif way == 1:
            lines.insert(to, lines[at])
        elif way == 2:
            lines[at], lines[to] = lines[to], lines[at]
        elif way == 3:
            lines.insert(at, " ".join(rng.choice(WORDS) for _ in range(rng.randint(0, 4))))
        elif way == 4:
            del words[rng.randrange(len(words))]
        elif way == 5:
            words.insert(rng.randint(0, len(words)), rng.choice(WORDS))
        elif way == 6:
            words[rng.randrange(len(words))] = rng.choice(WORDS)
        else:
            words[-1] = words[-1] + rng.choice((" ", "0", "a", ")"))
        if way > 3:
            lines[at] = " ".join(words)
        return "\n".join(lines)

    def test_other_values(self):
        for value in plain.odd_values(Plan("a"), Crew("may a a"), Works(HOUSE)):
            self.raises(BadWorks, 1 if type(value) is str else 0, Works, value)

    def test_equality(self):
        works = Works(HOUSE)
        self.assertTrue(works == Works(HOUSE))
        self.assertFalse(works != Works(HOUSE))
        # The same said otherwise is not the same text.
        lines = HOUSE.split("\n")
        other = Works("\n".join(lines[:2] + [lines[3], lines[2]] + lines[4:]))
        self.assertEqual(other.trade, works.trade)
        self.assertFalse(works == other)
        self.assertTrue(works != other)
        for value in plain.odd_values(works.plan, works.crew) + [HOUSE, (HOUSE,), works.crew]:
            self.assertFalse(works == value)
            self.assertTrue(works != value)


class Changed(plain.Raises, unittest.TestCase):

    def test_with_stock(self):
        works = Works(HOUSE)
        for stock in (0, 1, 6, 99999):
            more = works.with_stock(stock=stock)
            self.assertEqual(more.text, HOUSE.replace("stock 6", f"stock {stock}"))
            self.assertEqual(more.stock, stock)
        self.assertEqual(works.text, HOUSE)
        for value in plain.odd_values(works) + [-1, 100000, "6"]:
            if not plain.is_int(value) or not 0 <= value <= 99999:
                self.raises(BadStock, value, works.with_stock, value)

    def test_by(self):
        rng = random.Random(522)
        for text in [daily.any_works(rng, ("a", "b", "c", "d", "e")) for _ in range(80)] + RIGHT:
            works, told = Works(text), daily.Works(text)
            for choice in told.choices:
                with self.subTest(text, choice=choice):
                    lines = text.split("\n")
                    lines = [line for line in lines if not line.startswith("task ") or line.split(" ")[1] in choice]
                    lines[1] = "plan " + plain.chosen_text(told.plan, choice)
                    by = works.by(choice=choice)
                    self.assertEqual(by.text, "\n".join(lines))
                    self.assertEqual(by.crew, works.crew)
                    self.assertEqual(by.plan.choices, (choice,))
            values = plain.odd_values(works) + [choice[:-1] for choice in told.choices] + [list(told.choices[0])]
            for value in values:
                if not any(plain.alike(value, choice) for choice in told.choices):
                    self.raises(BadChoice, value, works.by, value)


if __name__ == "__main__":
    unittest.main()
