"""Point 91: works beside one another."""

import random
import unittest

from enoughhands.crewbeside import common
from enoughhands.errors import Apart, Full, Nobody, OtherWorks
from enoughhands.workbeside import (alike_days, both_works, idle_stock, shared_days, shows_alike_days, shows_within_days, whole_days,
                                    within_days)
from enoughhands.works import Works

from tests import changes, daily, people, plain
from tests.test_works import HOUSE

CALLS = [(within_days, ()), (shows_within_days, (None,)), (alike_days, ()), (shows_alike_days, (None,)), (shared_days, ()),
         (both_works, ())]


def days_of(told):
    return told.rests((), ())


def changed_text(rng, told):
    """The text of works that are like these in much: one or two things are told otherwise."""
    lines = told.text.split("\n")
    for _ in range(rng.choice((0, 1, 1, 2))):
        what = rng.randint(0, 5)
        if what == 0:
            lines[0] = f"stock {max(0, told.stock + rng.choice((-2, -1, 1, 4)))}"
        elif what == 1:
            lines[1] = "plan " + plain.any_text(rng, tuple(sorted(told.tasks)), plain.KINDS)
        elif what == 2:
            at = len(lines) - len(told.duties)
            lines = lines[:at] + [people.line_of(duty) for duty in told.duties if rng.random() < 0.5]
        elif what == 3:
            tasks = [at for at, line in enumerate(lines) if line.startswith("task ")]
            if tasks:
                at = rng.choice(tasks)
                word, task, need, net = lines[at].split(" ")
                lines[at] = f"task {task} {int(need) + 1} {net}"
        else:
            at = len([line for line in lines if line[:4] in ("stoc", "plan", "task")])
            crew = people.any_crew(rng, tuple(told.tasks), 3, 2) if what == 4 else "\n".join(sorted(lines[at:], key=lambda line: line[:3] != "may"))
            lines = lines[:at] + crew.split("\n")
        told = daily.Works("\n".join(lines))
    text = "\n".join(lines)
    return text if daily.first_wrong(text) is None else told.text


def pairs(rng, many, names=("a", "b", "c")):
    """Works, and other ones that are like them in much."""
    made = 0
    while made < many:
        told = daily.Works(daily.any_works(rng, names, 3, 2))
        other = changed_text(rng, told)
        if daily.first_wrong(other) is None and (days_of(told) or rng.random() < 0.2):
            made += 1
            found = (told, daily.Works(other))
            yield found if rng.random() < 0.5 else found[::-1]


def is_within(one, other, value):
    if plain.alike(value, ("within",)):
        return set(days_of(one)) <= set(days_of(other))
    if type(value) is not tuple or len(value) != 2 or not plain.alike(value[0], "more"):
        return False
    return (any(plain.alike(value[1], day) for day in days_of(one))
            and not any(plain.alike(value[1], day) for day in days_of(other)))


def is_alike(one, other, value):
    if plain.alike(value, ("alike",)):
        return days_of(one) == days_of(other)
    if type(value) is not tuple or len(value) != 3 or not plain.alike(value[0], "parts") or type(value[2]) is not int:
        return False
    if value[2] not in (0, 1):
        return False
    some, others = (one, other)[value[2]], (other, one)[value[2]]
    return is_within(some, others, ("more", value[1]))


class Beside(plain.Raises, unittest.TestCase):

    def test_within_and_alike(self):
        rng = random.Random(911)
        seen = {}
        for told, other in pairs(rng, 260):
            one, two = Works(told.text), Works(other.text)
            with self.subTest(told.text, other=other.text):
                value = within_days(one, two)
                self.assertTrue(is_within(told, other, value))
                self.assertEqual(value[0], "within" if set(days_of(told)) <= set(days_of(other)) else "more")
                self.assertIs(shows_within_days(one, two, value), True)
                same = alike_days(one, two)
                self.assertTrue(is_alike(told, other, same))
                self.assertIs(shows_alike_days(one, two, same), True)
                for word in (value[0], same[0], same[2:]):
                    seen[word] = seen.get(word, 0) + 1
                for changed in self.values(rng, told, other, value, same):
                    self.assertIs(shows_within_days(one, two, changed), is_within(told, other, changed), changed)
                    self.assertIs(shows_alike_days(one, two, changed), is_alike(told, other, changed), changed)
        self.assertTrue(min(seen[word] for word in ("within", "more", "alike", "parts", (0,), (1,))) > 15, seen)

    def values(self, rng, told, other, value, same):
        """Values near to what is told, and days of both."""
        near = plain.near(value) + plain.near(same)
        found = rng.sample(near, min(16, len(near))) + [("within",), ("alike",), ("more", ()), ("parts", (), 0)]
        for some in (told, other):
            days = days_of(some)
            for day in rng.sample(days, min(4, len(days))):
                found += [("more", day), ("more", day[:-1]), ("parts", day, 0), ("parts", day, 1), ("parts", day, False), ("parts", day, 2)]
        return found

    def test_numbers(self):
        rng = random.Random(912)
        seen = set()
        for told, other in pairs(rng, 300):
            one, two = Works(told.text), Works(other.text)
            shared = [day for day in days_of(told) if day in set(days_of(other))]
            seen.add(min(3, len(shared)))
            self.assertEqual(whole_days(works=one), len(days_of(told)))
            self.assertEqual(shared_days(one, two), len(shared), (told.text, other.text))
            self.assertEqual(shared_days(other=one, one=two), len(shared))
            self.assertEqual(shared_days(one, one), whole_days(one))
        self.assertTrue({0, 1, 2, 3} <= seen)

    def test_idle_stock(self):
        rng = random.Random(913)
        seen = set()
        for told, other in pairs(rng, 200):
            stock, day = idle_stock(Works(told.text))
            days = days_of(told)
            found = [number for number in range(told.stock + 1) if days_of(changes.with_stock_line(told, number)) == days]
            with self.subTest(told.text):
                self.assertEqual(stock, found[0] if days else 0)
                seen.add((bool(days), min(2, stock), stock == told.stock))
                if stock == 0:
                    self.assertIsNone(day)
                else:
                    self.assertTrue(any(plain.alike(day, one) for one in days))
                    self.assertNotIn(day, days_of(changes.with_stock_line(told, stock - 1)))
        self.assertTrue({(True, 0, False), (True, 1, True), (True, 2, True), (True, 2, False), (False, 0, False)} <= seen, seen)

    def test_idle_stock_of_what_nobody_does(self):
        """A choice that wants more stock, but has no deal, does not count."""
        works = Works("stock 9\nplan either(a,then(b,c))\ntask a 7 0\ntask b 2 0\ntask c 3 0\nmay ann b c")
        self.assertEqual(idle_stock(works), (3, (("b", "ann"), ("c", "ann"))))
        self.assertEqual(idle_stock(works=works.with_stock(2)), (0, None))
        self.assertEqual(idle_stock(Works(HOUSE))[0], 5)
        self.assertEqual(idle_stock(Works("stock 9\nplan a\nmay ann a")), (0, None))
        # Of two runs the one that wants more.
        self.assertEqual(idle_stock(Works("stock 9\nplan beside(a,b)\ntask a 2 5\ntask b 6 0\nmay ann a b")),
                         (6, (("b", "ann"), ("a", "ann"))))

    def test_works_beside_themselves(self):
        for text in (HOUSE, "stock 0\nplan a\nmay ann b", "stock 4\nplan either(a,b)\ntask a 5 0\nmay ann a"):
            one, two = Works(text), Works(text)
            self.assertEqual(within_days(one, two), ("within",))
            self.assertEqual(alike_days(one=one, other=two), ("alike",))
            self.assertEqual(shared_days(one, two), whole_days(one))
            self.assertEqual(both_works(one, two).text, text)
            self.assertIs(shows_within_days(value=("within",), other=one, one=one), True)
            self.assertIs(shows_alike_days(value=("alike",), other=two, one=one), True)

    def test_runs_that_are_let_otherwise(self):
        """Behind b alone a is let by one, and by the other one only behind c; all lots are reached by both."""
        lines = "\nplan beside(a,b,c){}\nmay ann a b c"
        one, two = Works("stock 1" + lines.format("")), Works("stock 1" + lines.format("\ntask a 1 0\ntask b 1 -1\ntask c 0 1"))
        self.assertEqual((whole_days(one), whole_days(two), shared_days(one, two), shared_days(two, one)), (6, 5, 5, 5))
        self.assertEqual(within_days(one, two), ("more", (("b", "ann"), ("a", "ann"), ("c", "ann"))))
        self.assertEqual(within_days(two, one), ("within",))

    def test_works_that_share_nothing(self):
        one, two = Works("stock 0\nplan a\nmay ann a"), Works("stock 0\nplan b\nmay ann b")
        self.assertEqual(within_days(one, two), ("more", (("a", "ann"),)))
        self.assertEqual(alike_days(one, two), ("parts", (("a", "ann"),), 0))
        self.assertEqual(shared_days(one, two), 0)
        # Without whole days all is within.
        none = Works("stock 0\nplan a\nmay ann b")
        self.assertEqual(within_days(none, one), ("within",))
        self.assertEqual(within_days(other=none, one=one)[0], "more")
        self.assertEqual(alike_days(none, one), ("parts", (("a", "ann"),), 1))
        self.assertEqual(alike_days(none, Works("stock 0\nplan b\nmay bob c")), ("alike",))
        # The runs are the same, what people may do or duties is not.
        for line, more in (("may ann a b\nmay bob a", "unlike a b"), ("may ann a b\nmay bob a b", "most ann 0"),
                           ("may ann a b\nmay bob a b", "same a b"), ("may ann a b\nmay bob a b", "few 1 a b")):
            wide = Works(f"stock 0\nplan then(a,b)\n{line}")
            tight = Works(f"{wide.text}\n{more}")
            self.assertEqual(within_days(tight, wide), ("within",))
            self.assertEqual(within_days(wide, tight)[0], "more")
            self.assertEqual(alike_days(wide, tight)[2], 0)
            self.assertEqual(alike_days(tight, wide)[2], 1)

    def test_many_duties(self):
        """Of both together there may be more duties than one crew has."""
        lines = "stock 0\nplan beside(a,b,c)\nmay ann a b c\nmay bob a b c\nmay cat a b c\n"
        one = Works(lines + "few 2 a b\nfew 2 b c\n" + "\n".join(f"most ann {number}" for number in range(3, 9)))
        two = Works(lines + "few 2 a c\nfew 2 a b c\n" + "\n".join(f"most bob {number}" for number in range(2, 8)))
        days = set(days_of(daily.Works(one.text))) & set(days_of(daily.Works(two.text)))
        self.assertEqual(shared_days(one, two), len(days))
        self.assertEqual(within_days(one, two)[0], "more")
        self.raises(Full, 8, both_works, one, two)
        few = Works(lines + "few 2 a b\nfew 2 b c"), Works(lines + "few 2 a c\nmost ann 1")
        self.raises(Full, 2, both_works, *few)
        days = set(days_of(daily.Works(few[0].text))) & set(days_of(daily.Works(few[1].text)))
        self.assertEqual(shared_days(*few), len(days))

    def test_both_works(self):
        rng = random.Random(914)
        made = 0
        while made < 60:
            told = daily.Works(daily.any_works(rng, ("a", "b", "c"), 3, 2))
            crew = people.any_crew(rng, ("a", "b", "c"), 3, 2)
            stock = max(0, told.stock + rng.choice((-1, 0, 2)))
            lines = [line for line in told.text.split("\n") if line[:4] in ("plan", "task")]
            moved = lines[:1] + lines[:0:-1]
            other = daily.Works("\n".join([f"stock {stock}", *moved, crew]))
            one, two = Works(told.text), Works(other.text)
            try:
                crew_text = common(one.crew, two.crew).text
            except (Nobody, Full) as error:
                self.raises(type(error), error.value, both_works, one, two)
                continue
            made += 1
            both = both_works(other=two, one=one)
            self.assertEqual(both.text, "\n".join([f"stock {min(told.stock, stock)}", *lines, crew_text]))
            self.assertEqual(set(days_of(daily.Works(both.text))), set(days_of(told)) & set(days_of(other)))
            self.assertEqual(whole_days(both), shared_days(one, two))

    def test_errors(self):
        works = Works(HOUSE)
        for call, more in CALLS:
            for value in plain.odd_values(works.plan, works.crew) + [HOUSE, (works,), [works]]:
                self.raises(OtherWorks, value, call, works, value, *more)
        self.raises(OtherWorks, None, both_works, other=None, one=works)
        for text in (HOUSE.replace("buy 4 -4", "buy 4 -3"), HOUSE.replace("beside(cook,lay)", "beside(lay,cook)"),
                     "stock 6\nplan a\nmay ann a", HOUSE.replace("task sell 0 9\n", "")):
            self.raises(Apart, None, both_works, works, Works(text))
        self.raises(Apart, None, both_works, works, Works("stock 6\nplan a\nmay zoe x"))
        self.raises(Nobody, None, both_works, works, Works(HOUSE.replace("may ann", "may zoe").replace("may bob", "may yan")))

    def test_other_values(self):
        for text, other in ((HOUSE, HOUSE.replace("stock 6", "stock 9")), (HOUSE, HOUSE), ("stock 0\nplan a\nmay ann a", HOUSE)):
            one, two, told, its = Works(text), Works(other), daily.Works(text), daily.Works(other)
            values = plain.odd_values(one, two)
            values += [("more", value) for value in values] + [("parts", value, 0) for value in values]
            for day in days_of(told) + days_of(its):
                values += [("parts", day, value) for value in plain.odd_values()]
            for value in values:
                self.assertIs(shows_within_days(one, two, value), is_within(told, its, value), value)
                self.assertIs(shows_alike_days(one, two, value), is_alike(told, its, value), value)


if __name__ == "__main__":
    unittest.main()
