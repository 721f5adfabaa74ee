"""Point 92: teams."""

import itertools
import random
import unittest

from enoughhands.errors import BadChoice, BadPeople
from enoughhands.teams import choice_teams, manages, shows_manages, twins
from enoughhands.works import Works

from tests import daily, people, plain
from tests.test_works import HOUSE


def lots_of(told):
    return people.lots_of(told.mays)


def others(told, lot):
    return tuple(sorted(person for person in told.mays if person not in lot))


def deals_by(told, choice, lot):
    return people.deals_of(told.crew, choice, (), others(told, lot))


def is_managed(told, choice, lot, value):
    if type(value) is not tuple or len(value) != 2:
        return False
    if plain.alike(value[0], "deal"):
        return any(plain.alike(value[1], deal) for deal in deals_by(told, choice, lot))
    return plain.alike(value[0], "none") and people.is_hands(told.crew, choice, (), others(told, lot), len(told.mays), value[1])


def all_teams(told, choice):
    found = [lot for lot in lots_of(told) if deals_by(told, choice, lot)]
    return tuple(sorted(lot for lot in found if not any(set(less) < set(lot) for less in found)))


def all_twins(told):
    found = []
    for one, other in itertools.combinations(sorted(told.mays), 2):
        swap = {one: other, other: one}
        good = True
        for choice in told.choices:
            deals = people.deals_of(told.crew, choice)
            good = good and all(tuple((task, swap.get(person, person)) for task, person in deal) in deals for deal in deals)
        if good:
            found.append((one, other))
    return tuple(found)


class Teams(plain.Raises, unittest.TestCase):

    def test_manages(self):
        rng = random.Random(921)
        seen = {"deal": 0, "none": 0}
        for told, day, away in daily.cases(rng, 90):
            works = Works(told.text)
            for choice, lot in itertools.product(told.choices[:2], rng.sample(lots_of(told), min(4, len(lots_of(told))))):
                with self.subTest(told.text, choice=choice, lot=lot):
                    value = manages(works, choice, lot)
                    seen[value[0]] += 1
                    self.assertTrue(is_managed(told, choice, lot, value))
                    self.assertIs(shows_manages(works, choice, lot, value), True)
                    for changed in self.values(rng, told, choice, value):
                        self.assertIs(shows_manages(works, choice, lot, changed), is_managed(told, choice, lot, changed), changed)
        self.assertTrue(min(seen.values()) > 40, seen)

    def values(self, rng, told, choice, value):
        near = plain.near(value)
        found = rng.sample(near, min(10, len(near))) + [("deal", ()), ("none", ()), ("none", ((),) * len(told.mays))]
        found += [("deal", deal) for deal in people.deals_of(told.crew, choice)[:5]]
        for gone in lots_of(told)[:4]:
            found.append(("none", people.reached(told.crew, choice, (), gone, len(told.mays))))
        return found

    def test_choice_teams(self):
        rng = random.Random(922)
        seen = set()
        for told, day, away in daily.cases(rng, 160, ("a", "b", "c", "d"), 4, 2):
            works = Works(told.text)
            for choice in told.choices:
                wanted = all_teams(told, choice)
                seen.add(len(wanted))
                self.assertEqual(choice_teams(works, choice), wanted, (told.text, choice))
                for lot in wanted:
                    self.assertEqual(manages(works, choice, lot)[0], "deal")
        self.assertTrue({0, 1, 2, 3} <= seen, seen)

    def test_stock_does_not_matter(self):
        works = Works("stock 0\nplan either(then(a,b),c)\ntask a 9 0\nmay ann a\nmay bob b\nmay cat a b c\nmost cat 1")
        self.assertEqual(choice_teams(works, ("a", "b")), (("ann", "bob"), ("ann", "cat"), ("bob", "cat")))
        self.assertEqual(choice_teams(choice=("c",), works=works), (("cat",),))
        self.assertEqual(manages(people=("ann", "bob"), choice=("a", "b"), works=works), ("deal", (("a", "ann"), ("b", "bob"))))
        self.assertIs(shows_manages(works=works, people=("cat",), value=manages(works, ("a", "b"), ("cat",)), choice=("a", "b")), True)
        self.assertEqual(manages(works, ("c",), ())[0], "none")

    def test_twins(self):
        rng = random.Random(923)
        seen = set()
        for told, day, away in daily.cases(rng, 260, ("a", "b", "c"), 4, 2):
            wanted = all_twins(told)
            seen.add(len(wanted))
            self.assertEqual(twins(Works(told.text)), wanted, told.text)
        self.assertTrue({0, 1, 2, 3, 6} <= seen, seen)

    def test_what_bars_twins(self):
        lines = "stock 0\nplan either(then(a,b),c)\n"
        for crew, wanted in (("may bob a b c\nmay ann a b c", True), ("may bob a b c\nmay ann a b", False),
                             ("may bob a b\nmay ann a b", True), ("may bob a b c\nmay ann a b c\nmost bob 1", False),
                             ("may bob a b c\nmay ann a b c\nmost bob 1\nmost ann 1", True),
                             ("may bob a b c\nmay ann a b c\nmost bob 2", True),
                             ("may bob a b c\nmay ann a b c\nunlike a b\nmost bob 1", True),
                             ("may bob a b c x\nmay ann a b c y\nsame a b\nfew 1 a b", True),
                             ("may bob x\nmay ann a", True)):
            self.assertEqual(twins(works=Works(lines + crew)), ((("ann", "bob"),) if wanted else ()), crew)

    def test_errors(self):
        works = Works(HOUSE)
        right = works.plan.choices[0]
        for value in plain.odd_values(works) + [right, list(right), right[::-1], right[:2], works.plan.choices]:
            if not plain.alike(value, right):
                self.raises(BadChoice, value, manages, works, value, None)
                self.raises(BadChoice, value, shows_manages, works, value, None, None)
                self.raises(BadChoice, value, choice_teams, works, value)
        for value in plain.odd_values(works) + [("bob", "ann"), ("ann", "ann"), ("cat",), ["ann"], "ann", ("ann", "bob"), ("bob",)]:
            if any(plain.alike(value, lot) for lot in ((), ("ann",), ("bob",), ("ann", "bob"))):
                self.assertIn(manages(works, right, value)[0], ("deal", "none"))
            else:
                self.raises(BadPeople, value, manages, works, right, value)
                self.raises(BadPeople, value, shows_manages, works, right, value, None)

    def test_other_values(self):
        works, told = Works(HOUSE), daily.Works(HOUSE)
        for choice, lot in itertools.product(told.choices, lots_of(told)):
            values = plain.odd_values(works)
            values += [(word, value) for word in ("deal", "none") for value in values] + [("none", (value, ())) for value in values]
            for value in values:
                self.assertIs(shows_manages(works, choice, lot, value), is_managed(told, choice, lot, value), value)


if __name__ == "__main__":
    unittest.main()
