"""Point 13: words between tasks."""

import itertools
import random
import unittest

from enoughhands.errors import BadPairs, NoTask, Same, Wide
from enoughhands.pairs import shows_told, told, word, words
from enoughhands.plans import Plan

from tests import plain

WORDS = ("ahead", "behind", "beside", "either")
RING = (("a", "b", "ahead"), ("a", "c", "behind"), ("b", "c", "ahead"))


def any_pairs(rng, tasks):
    return tuple((one, other, rng.choice(WORDS)) for one, other in itertools.combinations(tasks, 2))


def within(pairs, tasks):
    return tuple(pair for pair in pairs if pair[0] in tasks and pair[1] in tasks)


class Words(plain.Raises, unittest.TestCase):

    def test_by_all_runs(self):
        for text in plain.some_texts(21, 100) + ["a", "then(b,a)", "either(a,b)"]:
            with self.subTest(text):
                plan, wanted = Plan(text), plain.words(text)
                self.assertEqual(words(plan), wanted)
                contrary = {"ahead": "behind", "behind": "ahead"}
                for one, other, between in wanted:
                    self.assertEqual(word(plan, one, other), between)
                    self.assertEqual(word(plan, other, one), contrary.get(between, between))

    def test_errors(self):
        plan = Plan("then(a,b)")
        for value in plain.odd_values(plan):
            if value not in ("a", "b"):
                self.raises(NoTask, value, word, plan, value, "a")
                self.raises(NoTask, value, word, plan, "a", value)
                self.raises(NoTask, value, word, plan, value, "zz")
        self.raises(NoTask, "x", word, plan, "x", "x")
        self.raises(Same, "a", word, plan, "a", "a")
        self.raises(Same, "b", word, plan=plan, one="b", other="b")
        self.assertEqual(word(plan=plan, one="b", other="a"), "behind")
        self.assertEqual(words(plan=plan), (("a", "b", "ahead"),))

    def test_eight_tasks(self):
        plan = Plan("then(h,beside(g,either(f,e)),then(d,c),beside(b,a))")
        self.assertEqual(len(words(plan)), 28)
        self.assertEqual(words(plan), tuple(sorted(words(plan))))
        self.assertEqual([word(plan, *two) for two in ("ha", "ah", "ge", "ef", "cd", "ab")],
                         ["ahead", "behind", "beside", "either", "behind", "beside"])


class Told(plain.Raises, unittest.TestCase):

    def check(self, pairs, possible):
        """Check told, by the words of all plans of these tasks and of each three and four."""
        tasks = sorted({name for pair in pairs for name in pair[:2]})
        if pairs in possible[tuple(tasks)]:
            value = told(pairs)
            self.assertEqual(value[0], "plan")
            self.assertEqual(plain.words(value[1]), pairs)
        else:
            value = told(pairs)
            self.assertEqual(value[0], "stuck")
            lot = value[1]
            self.assertTrue(lot == plain.lot(lot) and 3 <= len(lot) <= 4)
            self.assertNotIn(within(pairs, lot), possible[lot])
        self.assertIs(shows_told(pairs, value), True)
        for many in range(len(tasks) + 1):
            for lot in itertools.combinations(tasks, many):
                self.assertIs(shows_told(pairs, ("stuck", lot)),
                              3 <= many <= 4 and within(pairs, lot) not in possible[lot], (pairs, lot))

    def test_all_of_three_and_some_of_four(self):
        possible = {}
        for many in (1, 2, 3, 4):
            for lot in itertools.combinations("abcd", many):
                possible[lot] = {plain.words(text) for text in plain.all_plans(lot)}
        for many in (2, 3):
            for lot in itertools.combinations("abcd", many):
                twos = list(itertools.combinations(lot, 2))
                for told_words in itertools.product(WORDS, repeat=len(twos)):
                    self.check(tuple((*two, one) for two, one in zip(twos, told_words)), possible)
        rng = random.Random(8)
        for _ in range(300):
            self.check(any_pairs(rng, "abcd"), possible)
        for pairs in rng.sample(sorted(possible[tuple("abcd")]), 100):
            self.check(pairs, possible)

    def test_words_of_plans(self):
        for text in plain.some_texts(22, 80, 8):
            pairs = words(Plan(text))
            if pairs:
                with self.subTest(text):
                    value = told(pairs)
                    self.assertEqual(value[0], "plan")
                    self.assertEqual(words(Plan(value[1])), pairs)
                    self.assertIs(shows_told(pairs, ("plan", text)), True)
                    self.assertIs(shows_told(pairs, ("plan", Plan(text).turned.text)),
                                  words(Plan(text).turned) == pairs)

    def test_many_tasks_stuck(self):
        """Of five to eight tasks: a plan, or three or four tasks of which there is none."""
        rng = random.Random(9)
        for tasks in ("abcde", "abcdef", "abcdefg", "abcdefgh"):
            for _ in range(25):
                pairs = dict((pair[:2], pair[2]) for pair in words(Plan(plain.any_text(rng, tasks))))
                for two in rng.sample(sorted(pairs), rng.randint(0, 2)):
                    pairs[two] = rng.choice(WORDS)
                pairs = tuple(sorted((*two, one) for two, one in pairs.items()))
                try:
                    value = told(pairs)
                except Wide as error:
                    self.assertEqual(error.value, 8)
                    continue
                self.assertIs(shows_told(pairs, value), True)
                if value[0] == "plan":
                    self.assertEqual(words(Plan(value[1])), pairs)
                else:
                    lot = value[1]
                    self.assertIn(len(lot), (3, 4))
                    self.assertNotIn(within(pairs, lot), {plain.words(text) for text in plain.all_plans(lot)})

    def test_shows(self):
        for text in ("then(a,either(b,c))", "beside(a,b,c,d)", "then(b,a)"):
            pairs = words(Plan(text))
            for value in plain.odd_values(Plan(text)):
                self.assertIs(shows_told(pairs, value), value == ("plan", text), value)
            self.assertIs(shows_told(pairs, ["plan", text]), False)
            for other in plain.near(text):
                self.assertIs(shows_told(pairs, ("plan", other)), False)
            self.assertIs(shows_told(pairs, ("plan", Plan(text))), False)
        for value in plain.near(("stuck", ("a", "b", "c"))):
            self.assertIs(shows_told(RING, value), False, value)
        self.assertIs(shows_told(RING, ("stuck", ("a", "b", "c"))), True)
        self.assertIs(shows_told(RING, ("plan", "then(a,b,c)")), False)
        more = tuple(sorted(RING + tuple((one, other, "beside") for one, other in itertools.combinations("abcde", 2)
                                         if other in "de")))
        for lot in ("abc", "abcd", "abce"):
            self.assertIs(shows_told(more, ("stuck", tuple(lot))), True)
        for lot in ("abcde", "ab", "abd", "abde", "abcx"):
            self.assertIs(shows_told(more, ("stuck", tuple(lot))), False)
        for text in ("beside(b,beside(a,c))", "beside(a,b,c)", "beside(c,b,a)"):
            self.assertIs(shows_told(words(Plan("beside(a,b,c)")), ("plan", text)), True)
        for text in ("beside(a,b)", "beside(a,b,c,d)", "beside(a,b,x)", "then(a,b,c)", "a"):
            self.assertIs(shows_told(words(Plan("beside(a,b,c)")), ("plan", text)), False)

    def test_no_pairs(self):
        good = words(Plan("then(a,beside(b,c))"))
        bad = [value for value in plain.near(good)] + plain.odd_values(Plan("a"), good) + [
            (("a", "a", "ahead"),), (("b", "a", "ahead"),), (("a", "then", "ahead"),), (("beside", "z", "ahead"),),
            (("a", "either", "ahead"),), (("a", "b", "then"),), (("a", "b", "Ahead"),), (("a", "b", None),),
            (("a", "b", "ahead"), ("a", "b", "behind")), (("a", "b", "ahead"), ("c", "d", "ahead")),
            (("a", "b", "ahead"), ("a", "c", "ahead")), good[::-1], good + good, list(good), good + (("b", "c", "ahead"),),
            (("a", "b", "ahead"), ("a", "c", "ahead"), ("b", "c", "ahead"), ("b", "c", "beside")),
            (("a", "b", ["ahead"]),), (("a", "b", {}),), (("a", "b", ("ahead",)),), (("a", ["b"], "ahead"),),
            (("a", "abcdefghi", "ahead"),), (("a", "B", "ahead"),), (("", "b", "ahead"),),
            tuple((one, other, "beside") for one, other in itertools.combinations("abcdefghi", 2))]
        for pairs in bad:
            if plain.alike(pairs, good):
                continue
            right = self.are_pairs(pairs)
            if right:
                self.assertIn(told(pairs)[0], ("plan", "stuck"))
            else:
                self.raises(BadPairs, pairs, told, pairs)
                self.raises(BadPairs, pairs, shows_told, pairs, ("plan", "a"))

    def are_pairs(self, value):
        """Whether a value is pairs, of names as they occur here."""
        if type(value) is not tuple or not all(type(pair) is tuple and len(pair) == 3 for pair in value):
            return False
        if not all(type(part) is str for pair in value for part in pair):
            return False
        names = sorted({name for pair in value for name in pair[:2]})
        if not all(name.isalpha() and name.islower() and len(name) <= 8 and name not in plain.KINDS
                   for name in names):
            return False
        return (all(pair[2] in WORDS for pair in value) and 2 <= len(names) <= 8
                and [pair[:2] for pair in value] == list(itertools.combinations(names, 2)))

    def test_wide(self):
        wide = {}
        tasks = "abcdefgh"
        for one, other in itertools.combinations(tasks, 2):
            wide[one, other] = "either" if tasks.index(one) // 2 == tasks.index(other) // 2 else "beside"
        pairs = tuple((*two, one) for two, one in sorted(wide.items()))
        self.raises(Wide, 8, told, pairs)
        for value in (None, ("plan", "a"), ("stuck", ("a", "b", "c"))):
            self.raises(Wide, 8, shows_told, pairs, value)
        nine = words(Plan("then(either(a,b,c),either(d,e),f)"))
        self.assertEqual(told(nine)[0], "plan")
        nine = tuple(sorted([pair for pair in nine if "f" not in pair] + [
            (one, "f", "either" if one in "de" else "ahead") for one in "abcde"]))
        self.raises(Wide, 8, told, pairs=nine)
        self.raises(Wide, 8, shows_told, pairs=nine, value=None)
        eight = words(Plan("either(a,b,c,d,e,f,g,h)"))
        self.assertEqual(told(eight)[0], "plan")
        self.assertIs(shows_told(pairs=eight, value=("plan", "either(h,g,f,e,d,c,b,a)")), True)


if __name__ == "__main__":
    unittest.main()
