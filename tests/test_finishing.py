"""Point 63: whether a day can be finished."""

import random
import re
import unittest

from enoughhands.errors import BadAway, BadDay
from enoughhands.finishing import choices_left, finish, shows_finish
from enoughhands.fronts import front, short, shows_front
from enoughhands.restranks import leaving, nth_rest, number_of_rest, open_events, rests, shut_events, teams
from enoughhands.works import Works

from tests import daily, people, plain
from tests.test_days import SHOP
from tests.test_works import HOUSE

# Each function of a day and of who is away, with what stands behind.
CALLS = [(finish, ()), (shows_finish, (None,)), (choices_left, ()), (rests, ()), (nth_rest, (0,)), (number_of_rest, (None,)),
         (open_events, ()), (shut_events, ()), (leaving, ()), (teams, ()), (front, ()), (shows_front, (None,)),
         (short, (5,))]


class Finish(plain.Raises, unittest.TestCase):

    def test_finish(self):
        rng = random.Random(541)
        seen = {"rest": 0, "never": 0}
        for told, day, away in daily.cases(rng, 260):
            works = Works(told.text)
            with self.subTest(told.text, day=day, away=away):
                value = finish(works, day, away)
                seen[value[0]] += 1
                self.assertEqual(value[0], "rest" if told.has_rests(day, away) else "never")
                self.assertTrue(told.is_finish(day, away, value))
                self.assertIs(shows_finish(works, day, away, value), True)
                for changed in self.values(rng, told, day, away, value):
                    self.assertIs(shows_finish(works, day, away, changed), told.is_finish(day, away, changed), changed)
        self.assertTrue(min(seen.values()) > 50)

    def values(self, rng, told, day, away, value):
        """Values near to what is told, other rests, and other papers."""
        near = plain.near(value)
        values = rng.sample(near, min(12, len(near)))
        all_rests = told.rests(day, ())
        values += [("rest", rest) for rest in rng.sample(all_rests, min(4, len(all_rests)))]
        values += [("rest", rest[:-1]) for rest in all_rests[:1]] + [("never", ()), ("rest", ())]
        for _ in range(3):
            values.append(("never", tuple(self.any_paper(rng, told, day, away, choice) for choice in told.fits(day))))
        return values

    def any_paper(self, rng, told, day, away, choice):
        """Any paper of a choice, right or not: all that is reached at some level, or all that is taken."""
        if rng.random() < 0.5:
            text = told.left(day, choice)
            level = told.level(day) + rng.choice((-1, 0, 0, 0))
            lots = () if text is None else daily.Told(text, told.trade, level).reached
            return (choice, "stock", tuple(lots))
        given = tuple(sorted(day)) if rng.random() < 0.8 else ()
        gone = away if rng.random() < 0.8 else ()
        most = rng.choice((len(told.mays), len(told.mays), 1))
        return (choice, "hands", people.reached(told.crew, choice, given, gone, most))

    def test_choices_left(self):
        rng = random.Random(542)
        words = set()
        for told, day, away in daily.cases(rng, 250):
            works = Works(told.text)
            with self.subTest(told.text, day=day, away=away):
                wanted = []
                for choice in told.fits(day):
                    word = {(True, True): "open", (False, True): "stock", (True, False): "hands",
                            (False, False): "both"}[told.is_open(day, away, choice)]
                    wanted.append((choice, word))
                    words.add(word)
                self.assertEqual(choices_left(works, day, away), tuple(wanted))
                self.assertEqual(told.has_rests(day, away), any(word == "open" for choice, word in wanted))
        self.assertEqual(words, {"open", "stock", "hands", "both"})

    def test_one_choice_has_to_be_open_by_both(self):
        """One way has enough stock, the other one people enough: the day cannot be finished."""
        works = Works("stock 5\nplan either(a,b)\ntask b 6 0\nmay ann b")
        self.assertEqual(finish(works=works, day=(), away=()),
                         ("never", ((("a",), "hands", ((((), (0,)),),)), (("b",), "stock", ((),)))))
        self.assertEqual(choices_left(works=works, day=(), away=()), ((("a",), "hands"), (("b",), "stock")))
        self.assertIs(shows_finish(works=works, day=(), away=(), value=finish(works, (), ())), True)
        self.assertEqual(finish(works.with_stock(6), (), ()), ("rest", (("b", "ann"),)))
        self.assertEqual(finish(works.with_stock(6), (), ("ann",))[0], "never")

    def test_finished_days(self):
        works = Works(SHOP)
        day = (("a", "ann"), ("c", "bob"))
        for away in ((), ("ann",), ("ann", "bob")):
            self.assertEqual(finish(works, day, away), ("rest", ()))
            self.assertEqual(choices_left(works, day, away), ((("a", "c"), "open"),))
            self.assertIs(shows_finish(works, day, away, ("never", ((("a", "c"), "stock", ((),)),))), False)
        self.assertEqual(finish(works, day[:1], ("bob",))[0], "never")
        self.assertEqual(finish(works, day[:1], ("ann",)), ("rest", day[1:]))
        self.assertIs(shows_finish(works, day[:1], ("bob",), ("rest", day[1:])), False)
        # A day that cannot be finished, by nobody's being away.
        self.assertEqual(choices_left(works, (("b", "bob"),), ()), ((("b", "c"), "hands"),))

    def test_errors(self):
        for text in (HOUSE, SHOP):
            works, told = Works(text), daily.Works(text)
            for call, more in CALLS:
                behind = tuple(None for _ in more)
                for value in plain.odd_values(works) + [(("a", "cat"),), (("buy", "bob"),), (("b", "bob"), ("c", "bob"))]:
                    if told.wrong(value):
                        self.raises(BadDay, value, call, works, value, None, *behind)
                for value in plain.odd_values(works) + [("bob", "ann"), ("ann", "ann"), ("cat",), ["ann"], "ann", (("ann",),)]:
                    if not plain.alike(value, ()):
                        self.raises(BadAway, value, call, works, (), value, *behind)
                self.raises(BadDay, None, call, works, None, None, *behind)

    def test_other_values(self):
        for text, away in ((HOUSE, ()), (HOUSE, ("bob",)), ("stock 0\nplan a\nmay ann a", ()), ("stock 0\nplan a\nmay ann b", ())):
            works, told = Works(text), daily.Works(text)
            values = plain.odd_values(works)
            values += [(word, value) for word in ("rest", "never") for value in values]
            for value in values:
                self.assertIs(shows_finish(works, (), away, value), told.is_finish((), away, value), value)


class More(plain.Raises, unittest.TestCase):

    def test_more(self):
        """With more stock, a task more that somebody may do, a duty less, nobody away, a day can still be finished."""
        rng = random.Random(543)
        for told, day, away in daily.cases(rng, 120):
            works = Works(told.text)
            if finish(works, day, away)[0] == "never":
                continue
            self.assertEqual(finish(works, day, ())[0], "rest")
            self.assertEqual(finish(works.with_stock(works.stock + rng.randint(1, 5)), day, away)[0], "rest")
            lines = told.text.split("\n")
            ahead = "\n".join(lines[:2 + len(works.trade)])
            for number in range(len(told.duties)):
                less = Works(ahead + "\n" + works.crew.without_duty(number).text)
                self.assertEqual(finish(less, day, away)[0], "rest")
            for person in told.mays:
                for task in told.tasks:
                    if task not in told.mays[person]:
                        more = Works(ahead + "\n" + works.crew.with_may(person, task).text)
                        self.assertEqual(finish(more, day, away)[0], "rest")

    def test_names(self):
        """With other names, and people and duties in another sequence, the same is told by these."""
        rng = random.Random(544)
        names = {"ann": "zoe", "bob": "yan", "cat": "xia", "dan": "will", "eve": "vic",
                 "a": "zz", "b": "yy", "c": "xx", "d": "ww", "x": "x"}
        for told, day, away in daily.cases(rng, 80):
            works = Works(told.text)
            other = "\n".join(self.renamed(rng, told, names))
            moved = tuple((names[task], names[person]) for task, person in day)
            gone = tuple(sorted(names[person] for person in away))
            with self.subTest(told.text, other=other, day=day, away=away):
                self.assertEqual(finish(works, day, away)[0], finish(Works(other), moved, gone)[0])
                self.assertEqual(rests(works, day, away), rests(Works(other), moved, gone))
                self.assertEqual(front(works, day, away)[0], front(Works(other), moved, gone)[0])
                wanted = sorted(tuple(sorted(names[person] for person in team)) for team in teams(works, day, away))
                self.assertEqual(list(teams(Works(other), moved, gone)), wanted)

    def renamed(self, rng, told, names):
        def words(line):
            return " ".join(names.get(word, word) for word in line.split(" "))
        lines = told.text.split("\n")
        plan = re.sub(r"\b[a-d]\b", lambda found: names[found[0]], told.plan)
        tasks = [words(line) for line in lines if line.startswith("task ")]
        mays = [words(line) for line in lines if line.startswith("may ")]
        duties = [words(line) for line in lines[2 + len(tasks) + len(mays):]]
        for rows in (tasks, mays, duties):
            rng.shuffle(rows)
        return [lines[0], "plan " + plan, *tasks, *mays, *duties]


if __name__ == "__main__":
    unittest.main()
