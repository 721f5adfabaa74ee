"""Point 83: what is wanting, and what is left."""

import random
import unittest

from enoughhands.errors import BadAway, BadDay, NoRests, NoTask
from enoughhands.losses import holds, losses, shows_holds
from enoughhands.slack import more_stock, need_room, shows_more_stock, shows_need_room
from enoughhands.works import Works

from tests import changes, daily, plain
from tests.test_works import HOUSE

POOR = HOUSE.replace("stock 6", "stock 4")
# Each function of a day and of who is away, with what stands behind.
CALLS = [(more_stock, ()), (shows_more_stock, (None,)), (need_room, (None,)), (shows_need_room, (None, None)),
         (holds, (None,)), (shows_holds, (None, None)), (losses, ())]


class MoreStock(plain.Raises, unittest.TestCase):

    def test_more_stock(self):
        rng = random.Random(831)
        seen = {"never": 0, "more": 0, 0: 0}
        for told, day, away in changes.tight_cases(rng, 300, ("a", "b", "c"), 3, 1):
            works = Works(told.text)
            with self.subTest(told.text, day=day, away=away):
                value = more_stock(works, day, away)
                seen[0 if value[:2] == ("more", 0) else value[0]] += 1
                self.assertTrue(changes.is_more(told, day, away, value))
                self.assertIs(shows_more_stock(works, day, away, value), True)
                for other in self.values(rng, told, day, away, value):
                    self.assertIs(shows_more_stock(works, day, away, other), changes.is_more(told, day, away, other), other)
        self.assertTrue(min(seen.values()) > 20, seen)

    def values(self, rng, told, day, away, value):
        """Values near to what is told, and what another number would tell."""
        near = plain.near(value)
        found = rng.sample(near, min(14, len(near)))
        if value[0] == "more":
            rest, papers = value[2], value[3]
            found += [("more", number, rest, papers) for number in (0, 1, 2, 9, -1)] + [("more", value[1], rest, ())]
            lesser = [("more", value[1] + 1, rest, papers), ("more", value[1] - 1, rest, papers)]
            found += lesser + [("never", papers), ("never", ())]
        else:
            found += [("more", 0, (), ()), ("more", 0, (), value[1]), ("never", value[1][::-1]), ("never", ())]
        works = Works(told.text)
        for choice in told.fits(day):
            lots = changes.daily.Told(told.left(day, choice), told.trade, told.level(day)).reached if told.left(day, choice) else ()
            found.append(("never", ((choice, "stock", tuple(lots)),) * len(told.fits(day))))
        return found + ([("more", works.stock, value[-1], ())])

    def test_numbers(self):
        poor = Works(POOR)
        for away, wanted in (((), ("more", 1)), (("bob",), ("more", 5))):
            self.assertEqual(more_stock(day=(), away=away, works=poor)[:2], wanted)
        self.assertEqual(more_stock(poor, (), ("ann",))[0], "never")
        self.assertEqual(more_stock(poor, (), ("ann", "bob"))[0], "never")
        self.assertEqual(more_stock(Works(HOUSE), (("buy", "ann"),), ())[1:3], (0, (("cook", "bob"), ("lay", "bob"), ("sell", "ann"))))
        self.assertIs(shows_more_stock(value=more_stock(poor, (), ()), day=(), away=(), works=poor), True)

    def test_the_number_is_from_0_on(self):
        works = Works("stock 2\nplan a\ntask a 1 0\nmay ann a")
        rest, papers = (("a", "ann"),), ((("a",), "stock", ((),)),)
        self.assertEqual(more_stock(works, (), ()), ("more", 0, rest, ()))
        self.assertIs(shows_more_stock(works, (), (), ("more", -1, rest, papers)), False)
        self.assertIs(shows_more_stock(works, (), (), ("more", 0, rest, papers)), False)
        self.assertIs(shows_more_stock(works.with_stock(0), (), (), ("more", 1, rest, papers)), True)
        self.assertIs(shows_more_stock(works.with_stock(0), (), (), ("more", True, rest, papers)), False)

    def test_stocks_however_great(self):
        tasks = "".join(f"\ntask {task} 9999 -9999" for task in "abcdefgh")
        works = Works(f"stock 99999\nplan then(a,b,c,d,e,f,g,h){tasks}\nmay ann a b c d e f g h")
        self.assertEqual(more_stock(works, (), ())[:2], ("more", 0))
        less = works.with_stock(0)
        value = more_stock(less, (), ())
        self.assertEqual(value[:2], ("more", 8 * 9999))
        self.assertIs(shows_more_stock(less, (), (), value), True)
        self.assertIs(shows_more_stock(less, (), (), ("more", 8 * 9999 + 1) + value[2:]), False)
        # More than a stock of works, or a need, can be.
        over = Works("stock 99999\nplan then(a,b)\ntask a 0 9999\ntask b 9999 -9999\nmay ann a b")
        self.assertEqual(need_room(over, (), (), "b")[:2], ("room", 99999))
        self.assertEqual(need_room(over, (), (), "a")[:2], ("room", 99999))
        after = Works("stock 99999\nplan then(a,b,c)" + tasks[:54] + "\nmay ann a b c")
        self.assertEqual(need_room(after, (), (), "c")[:2], ("room", 99999 - 3 * 9999))

    def test_finished_days(self):
        works = Works("stock 0\nplan then(a,b)\ntask a 0 3\ntask b 3 -3\nmay ann a\nmay bob b")
        day = (("a", "ann"), ("b", "bob"))
        for away in ((), ("ann",), ("ann", "bob")):
            self.assertEqual(more_stock(works, day, away), ("more", 0, (), ()))
            self.assertIs(shows_more_stock(works, day, away, ("more", 0, (), ())), True)
            self.assertIs(shows_more_stock(works, day, away, ("more", False, (), ())), False)
            self.assertIs(shows_more_stock(works, day, away, ("more", 1, (), ())), False)
        self.assertEqual(more_stock(works, day[:1], ("bob",))[0], "never")
        self.assertEqual(more_stock(works, day[:1], ("ann",)), ("more", 0, day[1:], ()))

    def test_papers_of_never_tell_hands(self):
        """A choice that is open neither by stock nor by hands has a paper of hands there."""
        works, told = Works("stock 0\nplan a\ntask a 1 0\nmay ann b"), daily.Works("stock 0\nplan a\ntask a 1 0\nmay ann b")
        value = more_stock(works, (), ())
        self.assertEqual(value, ("never", ((("a",), "hands", (((((), (0,))),),)),)))
        self.assertTrue(changes.is_more(told, (), (), value))
        self.assertIs(shows_more_stock(works, (), (), ("never", ((("a",), "stock", ((),)),))), False)

    def test_other_values(self):
        for text, away in ((POOR, ()), (POOR, ("ann",)), (HOUSE, ()), ("stock 0\nplan a\nmay ann b", ())):
            works, told = Works(text), daily.Works(text)
            values = plain.odd_values(works)
            values += [("never", value) for value in values] + [("more", 0, value, ()) for value in values]
            values += [("more", value, (), ()) for value in plain.odd_values()] + [("more", 1, (), value) for value in plain.odd_values()]
            values += [("never", ((("a",), value, ()),)) for value in plain.odd_values()]
            for value in values:
                self.assertIs(shows_more_stock(works, (), away, value), changes.is_more(told, (), away, value), value)


class NeedRoom(plain.Raises, unittest.TestCase):

    def test_need_room(self):
        rng = random.Random(832)
        seen = {"room": 0, "free": 0, "none": 0}
        for told, day, away in daily.cases(rng, 260):
            works = Works(told.text)
            left = [task for task in told.tasks if task not in [one for one, person in day]]
            for task in left:
                with self.subTest(told.text, day=day, away=away, task=task):
                    if not told.has_rests(day, away):
                        seen["none"] += 1
                        self.no_rests(told, day, away, task)
                        break
                    value = need_room(works, day, away, task)
                    seen[value[0]] += 1
                    self.assertTrue(changes.is_room(told, day, away, task, value))
                    self.assertIs(shows_need_room(works, day, away, task, value), True)
                    near = plain.near(value)
                    others = rng.sample(near, min(10, len(near))) + [("free", rest) for rest in told.rests(day, away)[:4]]
                    if value[0] == "room":
                        others += [("room", number, value[2], value[3]) for number in (0, 1, value[1] + 1, value[1] - 1, -1)]
                    for other in others:
                        self.assertIs(shows_need_room(works, day, away, task, other),
                                      changes.is_room(told, day, away, task, other), other)
        self.assertTrue(min(seen.values()) > 20, seen)

    def no_rests(self, told, day, away, task):
        works = Works(told.text)
        for call, behind in ((need_room, ()), (shows_need_room, (None,))):
            with self.assertRaises(NoRests) as caught:
                call(works, day, away, task, *behind)
            self.assertTrue(told.are_papers(day, away, caught.exception.value))

    def test_need_and_net(self):
        """The net is as it is: a need that is greater bars only ahead of the task."""
        works = Works("stock 5\nplan then(a,b)\ntask a 1 -1\nmay ann a b")
        self.assertEqual(need_room(works, (), (), "a")[:2], ("room", 4))
        self.assertEqual(need_room(task="b", works=works, away=(), day=())[:2], ("room", 4))
        self.assertEqual(need_room(works, (("a", "ann"),), (), "b")[:3], ("room", 4, (("b", "ann"),)))
        value = need_room(works, (), (), "b")
        self.assertIs(shows_need_room(value=value, task="b", away=(), day=(), works=works), True)
        self.assertIs(shows_need_room(works, (), (), "a", value), False)
        # It can be done behind what gives.
        self.assertEqual(need_room(Works("stock 0\nplan beside(a,b)\ntask a 0 7\nmay ann a b"), (), (), "b")[1], 7)

    def test_papers_of_a_need_that_is_greater_by_one(self):
        """With this need the task can be done ahead of all, and then the other one cannot."""
        works, told = [kind("stock 5\nplan beside(a,c)\ntask a 3 -3\ntask c 5 -1\nmay ann a c") for kind in (Works, daily.Works)]
        value = need_room(works, (), (), "a")
        self.assertEqual(value, ("room", 1, (("c", "ann"), ("a", "ann")), ((("a", "c"), "stock", ((), ("a",), ("c",))),)))
        self.assertTrue(changes.is_room(told, (), (), "a", value))
        for number in (-1, 0, 2, 3):
            self.assertIs(shows_need_room(works, (), (), "a", ("room", number) + value[2:]), False)
        less = value[:3] + (((("a", "c"), "stock", ((), ("c",))),),)
        self.assertIs(shows_need_room(works, (), (), "a", less), False)

    def test_free(self):
        works = Works("stock 0\nplan either(a,b)\ntask b 1 0\nmay ann a b")
        self.assertEqual(need_room(works, (), (), "b"), ("free", (("a", "ann"),)))
        self.assertEqual(need_room(works, (), (), "a")[:2], ("room", 0))
        self.assertEqual(need_room(works.with_stock(1), (), (), "a"), ("free", (("b", "ann"),)))
        self.assertIs(shows_need_room(works.with_stock(1), (), (), "a", ("free", (("a", "ann"),))), False)
        # The other choice has stock enough, and nobody.
        self.assertEqual(need_room(Works("stock 0\nplan either(a,b)\nmay ann a"), (), (), "a")[0], "room")
        self.assertEqual(need_room(Works("stock 0\nplan either(a,b)\nmay ann a"), (), (), "b"), ("free", (("a", "ann"),)))

    def test_no_task(self):
        for text, day in ((HOUSE, ()), (HOUSE, (("buy", "ann"), ("cook", "bob")))):
            works, told = Works(text), daily.Works(text)
            for value in plain.odd_values(works) + list(told.tasks) + ["ann", ("buy",), ["lay"]]:
                done = [task for task, person in day]
                if any(plain.alike(value, task) for task in told.tasks if task not in done):
                    self.assertIn(need_room(works, day, (), value)[0], ("room", "free"))
                else:
                    self.raises(NoTask, value, need_room, works, day, (), value)
                    self.raises(NoTask, value, shows_need_room, works, day, (), value, None)
        # Ahead of NoRests.
        self.raises(NoTask, "x", need_room, Works(POOR), (), (), "x")
        self.no_rests(daily.Works(POOR), (), (), "sell")
        done = (("a", "ann"),)
        self.raises(NoTask, "a", need_room, Works("stock 0\nplan a\nmay ann a"), done, (), "a")

    def test_other_values(self):
        for text, task in ((HOUSE, "sell"), (HOUSE, "bake"), ("stock 0\nplan a\nmay ann a", "a")):
            works, told = Works(text), daily.Works(text)
            values = plain.odd_values(works)
            values += [("free", value) for value in values] + [("room", 0, (), value) for value in values]
            values += [("room", value, (("a", "ann"),), ()) for value in plain.odd_values()]
            values += [("room", 0, (("a", "ann"),), value) for value in plain.odd_values()]
            for value in values:
                self.assertIs(shows_need_room(works, (), (), task, value), changes.is_room(told, (), (), task, value), value)


class Errors(plain.Raises, unittest.TestCase):

    def test_bad_day_and_away(self):
        works, told = Works(HOUSE), daily.Works(HOUSE)
        for call, more in CALLS:
            for value in plain.odd_values(works) + [(("buy", "bob"),), (("sell", "ann"),), [("buy", "ann")]]:
                if told.wrong(value):
                    self.raises(BadDay, value, call, works, value, None, *more)
            for value in plain.odd_values(works) + [("bob", "ann"), ("ann", "ann"), ("cat",), ["ann"], "ann"]:
                if not plain.alike(value, ()):
                    self.raises(BadAway, value, call, works, (), value, *more)


if __name__ == "__main__":
    unittest.main()
