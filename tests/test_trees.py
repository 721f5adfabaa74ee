"""Point 72: what is surely finished."""

import random
import unittest

from enoughhands.errors import BadAway, BadForeign, BadStanding, TooMany
from enoughhands.finishing import finish
from enoughhands.trees import if_known, shows_surely, standings, surely, view
from enoughhands.works import Works

from tests import daily, plain, telling
from tests.test_works import HOUSE

LATE = "stock 0\nplan then(a,either(b,c))\nmay ann a b\nmay bob a c\nsame a b c"
# Three tasks that four may do, four that one may do: (1 + 4) ** 3 * (1 + 1) ** 4 standings.
MANY = ("stock 0\nplan beside(a,b,c,d,e,f,g)\nmay ann a b c d e f g h\nmay bob a b c\nmay cat a b c\nmay dan a b c")
CALLS = [(standings, ()), (surely, ()), (view, ()), (if_known, ())]


class Trees(plain.Raises, unittest.TestCase):

    def test_standings_and_views(self):
        rng = random.Random(721)
        words = set()
        for told, foreign, away in telling.cases(rng, 200):
            works, course = Works(told.text), telling.Course(told, foreign, away)
            with self.subTest(told.text, foreign=foreign, away=away):
                self.assertEqual(standings(works, foreign, away), len(course.steps))
                self.assertEqual(view(works, foreign, away), course.view(((), ())))
                for standing in rng.sample(list(course.steps), min(6, len(course.steps))):
                    wanted = course.view(standing)
                    words.add(wanted[0])
                    self.assertEqual(view(works, foreign, away, standing), wanted)
                    self.assertEqual(view(away=away, standing=standing, works=works, foreign=foreign), wanted)
        self.assertEqual(words, {"done", "ask", "do"})

    def test_surely(self):
        rng = random.Random(722)
        seen = {"tree": 0, "lost": 0}
        for told, foreign, away in telling.cases(rng, 160):
            works, course = Works(told.text), telling.Course(told, foreign, away)
            for standing in [((), ())] + rng.sample(list(course.steps), min(3, len(course.steps))):
                with self.subTest(told.text, foreign=foreign, away=away, standing=standing):
                    value = surely(works, foreign, away, standing)
                    seen[value[0]] += 1
                    self.assertEqual(value[0], "tree" if course.has_tree(standing) else "lost")
                    self.assertTrue(course.is_surely(standing, value))
                    self.assertIs(shows_surely(works, foreign, away, standing, value), True)
                    for changed in self.values(rng, course, standing, value):
                        self.assertIs(shows_surely(works, foreign, away, standing, changed),
                                      course.is_surely(standing, changed), changed)
            self.assertEqual(surely(works, foreign, away), surely(works, foreign, away, ((), ())))
        self.assertTrue(min(seen.values()) > 100)

    def values(self, rng, course, standing, value):
        """Values near to what is told, other trees, and other lost standings."""
        near = plain.near(value)
        values = rng.sample(near, min(10, len(near)))
        values += [("tree", course.any_tree(rng, standing, wrong)) for wrong in (0, 0.5)]
        for lost in (course.any_lost(rng, standing), tuple(sorted(course.steps)),
                     tuple(sorted(one for one in course.steps if not course.has_tree(one)))):
            values += [("lost", lost), ("lost", lost[:-1]), ("lost", lost[1:]), ("lost", lost[::-1])]
            some = tuple(one for one in lost if one == standing or rng.random() < 0.7)
            values.append(("lost", some))
        return values + [("tree", ("done",)), ("lost", ()), ("lost", (standing,))]

    def test_if_known(self):
        rng = random.Random(723)
        sizes = set()
        for told, foreign, away in telling.cases(rng, 200, ("a", "b", "c", "d", "e")):
            works, course = Works(told.text), telling.Course(told, foreign, away)
            with self.subTest(told.text, foreign=foreign, away=away):
                wanted = course.if_known()
                sizes.add(len(wanted))
                self.assertEqual(if_known(works, foreign, away), wanted)
                if course.has_tree(((), ())):
                    self.assertEqual(wanted, ())
        self.assertTrue({0, 1, 2} <= sizes)

    def test_tellings_of_eithers_within_one_another(self):
        plan = "either(either(a,then(b,either(c,d))),beside(e,either(f,g)))"
        works = Works(f"stock 0\nplan {plan}\nmay ann x")
        wanted = (((0, 0), (1, 0)), ((0, 0), (1, 1), (2, 0)), ((0, 0), (1, 1), (2, 1)), ((0, 1), (3, 0)), ((0, 1), (3, 1)))
        self.assertEqual(if_known(away=(), works=works, foreign=(0, 1, 2, 3)), wanted)
        self.assertEqual(if_known(works, (2, 3), ()), (((2, 0), (3, 0)), ((2, 0), (3, 1)), ((2, 1), (3, 0)), ((2, 1), (3, 1))))
        self.assertEqual(if_known(works, (), ()), ((),))
        for foreign in telling.foreign_lots(plan):
            self.assertEqual(list(if_known(works, foreign, ())), telling.tellings(plan, foreign))

    def test_it_does_not_help_that_each_could_be_done(self):
        works = Works(LATE)
        self.assertEqual(if_known(works, (0,), ()), ())
        self.assertEqual(surely(works, (0,), ())[0], "lost")
        self.assertEqual(surely(works, (), ())[0], "tree")
        self.assertEqual(standings(away=(), foreign=(0,), works=works), 9)
        told = ((("a", "ann"),), ((0, 0),))
        self.assertEqual(surely(standing=told, away=(), foreign=(0,), works=works), ("tree", ("event", ("b", "ann"), ("done",))))

    def test_without_foreign_eithers_a_tree_is_there_just_where_rests_are(self):
        rng = random.Random(724)
        for told, foreign, away in telling.cases(rng, 120):
            works = Works(told.text)
            without = surely(works, (), away)[0]
            self.assertEqual(without, {"rest": "tree", "never": "lost"}[finish(works, (), away)[0]])
            # With a further foreign either there is none where there was none.
            if surely(works, foreign, away)[0] == "lost":
                for more in telling.foreign_lots(told.plan):
                    if set(foreign) <= set(more):
                        self.assertEqual(surely(works, more, away)[0], "lost")
            else:
                self.assertEqual(without, "tree")

    def test_finished_standings(self):
        works = Works(LATE)
        done = ((("a", "ann"), ("b", "ann")), ((0, 0),))
        self.assertEqual(surely(works, (0,), (), done), ("tree", ("done",)))
        self.assertEqual(view(works, (0,), (), done), ("done",))
        self.assertIs(shows_surely(standing=done, works=works, away=(), foreign=(0,), value=("tree", ("done",))), True)
        self.assertIs(shows_surely(works, (0,), (), done, ("lost", (done,))), False)
        # Nobody may do it, and everybody is away.
        self.assertEqual(view(Works("stock 0\nplan a\nmay ann b"), (), ()), ("do", ()))
        self.assertEqual(surely(Works("stock 0\nplan a\nmay ann a"), (), ("ann",)), ("lost", (((), ()),)))

    def test_an_either_with_a_lesser_number_may_be_asked_later(self):
        told = daily.Works("stock 0\nplan beside(then(a,either(b,c)),either(d,e))\nmay ann a b d\nmay bob c e")
        works, course = Works(told.text), telling.Course(told, (0, 1), ())
        self.assertEqual(standings(works, (0, 1), ()), len(course.steps))
        later = ((("a", "ann"),), ((1, 1),))
        self.assertEqual(view(works, (0, 1), (), later), ("ask", 0, ()))
        both = (later[0], ((0, 1), (1, 1)))
        self.assertEqual(view(works, (0, 1), (), both), ("do", (("c", "bob"), ("e", "bob"))))
        for standing in course.steps:
            self.assertEqual(view(works, (0, 1), (), standing), course.view(standing))
            self.assertTrue(course.is_surely(standing, surely(works, (0, 1), (), standing)))

    def test_many_standings(self):
        works = Works(MANY)
        self.assertEqual(standings(works, (), ()), 2000)
        self.assertEqual(view(works, (), ())[0], "do")
        more = Works(MANY.replace("beside(a,b,c,d,e,f,g)", "then(h,beside(a,b,c,d,e,f,g))"))
        for call, behind in CALLS:
            self.raises(TooMany, 2000, call, more, (), ())
        self.raises(TooMany, 2000, surely, more, (), (), None)
        self.raises(TooMany, 2000, view, more, (), (), None)
        self.raises(TooMany, 2000, shows_surely, more, (), (), None, None)
        self.raises(TooMany, 2000, if_known, works=more, foreign=(), away=())
        self.assertEqual(standings(more, (), ("dan",)), 1 + 4 ** 3 * 2 ** 4)

    def test_errors(self):
        for text in (HOUSE, LATE, "stock 0\nplan a\nmay ann a"):
            works, told = Works(text), daily.Works(text)
            for value in plain.odd_values(works) + [(1,), (0, 0), (False,), [0]]:
                if telling.is_foreign(told.plan, value):
                    continue
                for call, behind in CALLS:
                    self.raises(BadForeign, value, call, works, value, None)
                self.raises(BadForeign, value, surely, works, value, None, None)
                self.raises(BadForeign, value, view, works, value, None, None)
                self.raises(BadForeign, value, shows_surely, works, value, None, None, None)
            for value in plain.odd_values(works) + [("bob", "ann"), ("ann", "ann"), ("cat",), ["ann"], "ann"]:
                if plain.alike(value, ()):
                    continue
                for call, behind in CALLS:
                    self.raises(BadAway, value, call, works, (), value)
                self.raises(BadAway, value, shows_surely, works, (), value, None, None)

    def test_bad_standing(self):
        for text, foreign in ((HOUSE, (0,)), (LATE, (0,)), (LATE, ()), ("stock 0\nplan a\nmay ann a", ())):
            works = Works(text)
            course = telling.Course(daily.Works(text), foreign, ())
            values = plain.odd_values(works, ((), ())) + [((), ((0, 0),)), (((("a", "ann"),), ((0, False),))), ((), []), ([], ())]
            for standing in course.steps:
                values += [standing, list(standing), standing + ((),), (standing[0], ((0, True),)), (standing[0][::-1], standing[1]),
                           (standing[0], ()), ((), standing[1]), (standing[0] + ((["a"], "ann"),), standing[1]),
                           (standing[0], standing[1] + (({}, 0),)), (standing[0] + (("a", ["ann"]),), standing[1]),
                           (standing[0], standing[1] + ((0, []),)), (standing[0] + (["a", "ann"],), standing[1])]
            for value in values:
                if course.comes(value):
                    self.assertEqual(view(works, foreign, (), value), course.view(value))
                else:
                    self.raises(BadStanding, value, surely, works, foreign, (), value)
                    self.raises(BadStanding, value, view, works, foreign, (), value)
                    self.raises(BadStanding, value, shows_surely, works, foreign, (), value, None)

    def test_other_values(self):
        for text, foreign in ((LATE, (0,)), (LATE, ()), ("stock 0\nplan a\nmay ann a", ()), ("stock 0\nplan a\nmay ann b", ())):
            works, course = Works(text), telling.Course(daily.Works(text), foreign, ())
            values = plain.odd_values(works)
            values += [(word, value) for word in ("tree", "lost") for value in values]
            values += [("lost", (value,)) for value in values] + [("tree", ("event", value, ("done",))) for value in values]
            for standing in course.steps:
                for value in values:
                    self.assertIs(shows_surely(works, foreign, (), standing, value), course.is_surely(standing, value), value)


if __name__ == "__main__":
    unittest.main()
