"""Point 15: parts."""

import itertools
import random
import unittest

from enoughhands.errors import BadLot, BadName, BadOther, Wide
from enoughhands.normal import normal
from enoughhands.pairs import words
from enoughhands.parts import around, clusters, is_cluster, only, put
from enoughhands.plans import Plan

from tests import plain


def all_words(text):
    """The words of each two tasks in both sequences, by all runs."""
    found, tasks = plain.runs(text), plain.tree_tasks(plain.tree(text))
    return {(one, other): plain.word(found, one, other)
            for one in tasks for other in tasks if one != other}


def some_lots(tasks):
    tasks = sorted(tasks)
    return [lot for many in range(1, len(tasks) + 1) for lot in itertools.combinations(tasks, many)]


def all_clusters(text):
    table, tasks = all_words(text), plain.tree_tasks(plain.tree(text))
    return sorted(lot for lot in some_lots(tasks) if all(
        len({table[task, one] for one in lot}) == 1 for task in tasks if task not in lot))


class Clusters(plain.Raises, unittest.TestCase):

    def test_clusters(self):
        for text in plain.some_texts(41, 80, 6) + ["a", "then(a,b)"]:
            with self.subTest(text):
                plan, wanted = Plan(text), all_clusters(text)
                self.assertEqual(clusters(plan), tuple(wanted))
                for lot in some_lots(plan.tasks):
                    self.assertIs(is_cluster(plan, lot), lot in wanted)

    def test_other_values(self):
        plan = Plan("then(a,beside(b,c))")
        wanted = all_clusters(plan.text)
        values = plain.odd_values(plan) + [value for lot in wanted for value in plain.near(lot)] + [
            (), ("c", "b"), ("b", "b"), ("b", "c", "d"), ("x",), ["b", "c"], "bc", {"b": 1}]
        for value in values:
            self.assertIs(is_cluster(plan, value), any(plain.alike(value, lot) for lot in wanted), value)
        self.assertIs(is_cluster(plan=plan, value=("b", "c")), True)
        self.assertEqual(clusters(plan=Plan("a")), (("a",),))

    def test_eight_tasks(self):
        self.assertEqual(len(clusters(Plan("beside(a,b,c,d,e,f,g,h)"))), 255)
        self.assertEqual(len(clusters(Plan("then(h,g,f,e,d,c,b,a)"))), 36)


class Only(plain.Raises, unittest.TestCase):

    def test_only(self):
        for text in plain.some_texts(42, 50, 6) + ["a"]:
            plan, table = Plan(text), all_words(text)
            for lot in some_lots(plan.tasks):
                with self.subTest(text, lot=lot):
                    got = only(plan, lot)
                    self.assertIs(type(got), Plan)
                    self.assertEqual(got.text, normal(got).text)
                    self.assertEqual(plain.lot(got.tasks), lot)
                    self.assertEqual({two: table[two] for two in itertools.permutations(lot, 2)},
                                     all_words(got.text))

    def test_wrong_lots(self):
        plan = Plan("then(b,a)")
        right = [("a",), ("b",), ("a", "b")]
        for value in plain.odd_values(plan) + [("b", "a"), ("a", "c"), ("a", "a")]:
            if value not in right:
                self.raises(BadLot, value, only, plan, value)
        self.raises(BadLot, (), only, plan=plan, tasks=())
        self.assertEqual(only(plan=plan, tasks=("a", "b")).text, "then(b,a)")

    def test_not_parts_of_runs(self):
        plan = Plan("either(then(a,b),c)")
        self.assertEqual(only(plan, ("a", "c")).text, "either(a,c)")
        self.assertEqual(only(Plan("then(a,either(b,beside(c,d)),e)"), ("b", "c")).text, "either(b,c)")


class Put(plain.Raises, unittest.TestCase):

    def check(self, text, lot, other, got):
        """Check the words of the plan that put made."""
        table, its = all_words(text), all_words(other)
        rest = [task for task in plain.tree_tasks(plain.tree(text)) if task not in lot]
        wanted = dict(its)
        for one in rest:
            wanted.update({(one, task): table[one, task] for task in rest if task != one})
            for task in plain.tree_tasks(plain.tree(other)):
                wanted[one, task], wanted[task, one] = table[one, lot[0]], table[lot[0], one]
        self.assertIs(type(got), Plan)
        self.assertEqual(got.text, normal(got).text)
        self.assertEqual(all_words(got.text), wanted)

    def test_put(self):
        rng = random.Random(43)
        wide = 0
        for text in plain.some_texts(44, 60, 5):
            plan = Plan(text)
            for lot in all_clusters(text):
                rest = [task for task in plan.tasks if task not in lot]
                names = [task for task in "abcdefgxyz" if task not in rest]
                other = Plan(plain.any_text(rng, rng.sample(names, rng.randint(1, 3))))
                with self.subTest(text, lot=lot, other=other.text):
                    try:
                        got = put(plan, lot, other)
                    except Wide as error:
                        wide += 1
                        self.assertEqual(error.value, 8)
                        self.assertGreater(self.ways(text, lot, other.text), 8)
                        continue
                    self.check(text, lot, other.text, got)
        self.assertLess(wide, 20)

    def ways(self, text, lot, other):
        """How many choices there were: of each choice with a task of the lot all of other."""
        without = [choice for choice in Plan(text).choices if not set(choice) & set(lot)]
        rest = {tuple(task for task in choice if task not in lot)
                for choice in Plan(text).choices if set(choice) & set(lot)}
        return len(without) + len(rest) * len(Plan(other).choices)

    def test_around(self):
        for text in plain.some_texts(45, 60, 6):
            plan = Plan(text)
            for lot in all_clusters(text):
                for name in ("new", lot[0], lot[-1]):
                    with self.subTest(text, lot=lot, name=name):
                        self.check(text, lot, name, around(plan, lot, name))

    def test_errors_of_put(self):
        plan, other = Plan("then(a,beside(b,c))"), Plan("then(b,x)")
        for value in plain.odd_values(plan) + [("a", "b"), ("c", "b"), ("b", "x"), ["b", "c"]]:
            if not any(plain.alike(value, lot) for lot in all_clusters(plan.text)):
                self.raises(BadLot, value, put, plan, value, other)
                self.raises(BadLot, value, put, plan, value, None)
                self.raises(BadLot, value, around, plan, value, "x")
                self.raises(BadLot, value, around, plan, value, None)
        for value in plain.odd_values():
            self.raises(BadOther, value, put, plan, ("b", "c"), value)
        for bad in (Plan("a"), Plan("then(x,a)"), Plan("either(a,b)"), Plan("beside(a,b,c,d,e,f,g,h)")):
            self.raises(BadOther, bad, put, plan, ("b", "c"), bad)
        self.raises(BadOther, plan, put, plan, ("a",), plan)
        self.assertEqual(put(plan, ("a", "b", "c"), plan).text, normal(plan).text)
        self.assertEqual(put(plan=plan, tasks=("b", "c"), other=other).text, "then(a,b,x)")

    def test_wide(self):
        plan = Plan("beside(a,b)")
        seven = Plan("then(c,d,e,f,g,h,i)")
        self.assertEqual(len(put(plan, ("a",), seven)), 8)
        eight = Plan("then(c,d,e,f,g,h,i,j)")
        self.raises(Wide, 8, put, plan, ("a",), eight)
        self.assertEqual(put(plan, ("a", "b"), eight), eight)
        choices = Plan("beside(either(a,b),either(c,d),e)")
        self.assertEqual(len(put(choices, ("e",), Plan("either(x,y)")).choices), 8)
        self.raises(Wide, 8, put, choices, ("e",), Plan("either(x,y,z)"))
        self.raises(Wide, 8, put, Plan("beside(either(a,b,c),d)"), ("d",), Plan("either(d,x,y)"))
        self.assertEqual(put(choices, ("a", "b"), Plan("either(x,y,z)")).text,
                         "beside(either(c,d),e,either(x,y,z))")
        self.assertEqual(len(put(Plan("either(a,b)"), ("a",), Plan("either(c,d,e,f,g,h,i)")).choices), 8)

    def test_errors_of_around(self):
        plan = Plan("then(a,beside(b,c))")
        right = ("b", "run", "stuck", "same", "within", "alike", "never", "apart", "more", "parts")
        for value in plain.odd_values(plan) + ["beside", "either", "abcdefghi", "x1", "c(", ("x",)]:
            if value not in right:
                self.raises(BadName, value, around, plan, ("b", "c"), value)
        self.raises(BadName, "a", around, plan=plan, tasks=("b", "c"), name="a")
        self.raises(BadName, "c", around, plan, ("b",), "c")
        self.assertEqual(around(plan=plan, tasks=("b", "c"), name="c").text, "then(a,c)")
        self.assertEqual(around(plan, ("a", "b", "c"), "a").text, "a")
        self.assertEqual(around(Plan("beside(either(a,b),either(c,d),either(e,f))"), ("a", "b"), "abcdefgh").text,
                         "beside(abcdefgh,either(c,d),either(e,f))")

    def test_words_of_a_part(self):
        """What was put in can be taken out again."""
        rng = random.Random(46)
        for text in plain.some_texts(47, 40, 5):
            for lot in all_clusters(text):
                one = around(Plan(text), lot, "new")
                part = only(Plan(text), lot)
                self.assertEqual(put(one, ("new",), part), normal(Plan(text)))
                self.assertEqual(words(only(one, ("new",))), ())
                self.assertIs(is_cluster(put(one, ("new",), Plan(rng.choice(["then(x,y)", "either(x,y)"]))),
                                         ("x", "y")), True)


if __name__ == "__main__":
    unittest.main()
