"""Point 42: duties."""

import itertools
import random
import unittest

from enoughhands.crews import Crew
from enoughhands.duties import broken, is_kept, pattern_of, patterns
from enoughhands.errors import BadDeal, BadTasks, TooMany
from enoughhands.plans import Plan

from tests import people, plain

NAMES = "abcdefgh"
ALL = tuple(NAMES)


def any_deal(rng, mays, tasks=NAMES):
    """Any deal, kept or not."""
    some = sorted(rng.sample(tasks, rng.randint(0, len(tasks))))
    return tuple((task, rng.choice(list(mays))) for task in some)


def all_patterns(tasks):
    """All patterns of tasks, one behind the other put to each lot, or by itself."""
    if not tasks:
        return [()]
    found = []
    for pattern in all_patterns(tasks[:-1]):
        for at in range(len(pattern)):
            found.append(pattern[:at] + (pattern[at] + tasks[-1:],) + pattern[at + 1:])
        found.append(pattern + (tasks[-1:],))
    return found


def is_fair(duties, pattern, tasks):
    for duty in duties:
        of = [sum(1 for task in lot if task in duty[-1]) for lot in pattern] if duty[0] != "most" else []
        here = sum(1 for task in tasks if duty[0] != "most" and task in duty[-1])
        if duty[0] == "unlike" and max(of, default=0) > 1:
            return False
        if duty[0] == "same" and here not in (0, max(of, default=0)):
            return False
        if duty[0] == "few" and sum(1 for one in of if one) > duty[1]:
            return False
    return True


class Deals(plain.Raises, unittest.TestCase):

    def test_broken(self):
        rng = random.Random(311)
        kept = 0
        for text in people.some_crews(rng, 250, tuple(NAMES), 5, 6):
            crew, told = Crew(text), people.read(text)
            for _ in range(6):
                deal = any_deal(rng, told[0], NAMES[:rng.randint(1, 8)])
                with self.subTest(text, deal=deal):
                    numbers = tuple(at for at, duty in enumerate(told[1]) if people.is_broken(duty, deal))
                    wanted = (people.wrong_tasks(told[0], deal), numbers)
                    self.assertEqual(broken(crew, deal), wanted)
                    self.assertIs(is_kept(crew, deal), wanted == ((), ()))
                    kept += wanted == ((), ())
                    together = [tuple(sorted(task for task, one in deal if one == person)) for person in told[0]]
                    self.assertEqual(pattern_of(crew, deal), tuple(sorted(lot for lot in together if lot)))
        self.assertGreater(kept, 100)

    def test_each_duty(self):
        crew = Crew("may ann a b c\nmay bob a b c\nmay cat a b c\nmost ann 1\nunlike a b\nsame b c\nfew 1 a c")
        for deal, wanted in (((("a", "ann"), ("b", "ann")), ((), (0, 1))), ((("a", "ann"), ("b", "bob")), ((), ())),
                             ((("b", "ann"), ("c", "bob")), ((), (2,))), ((("a", "ann"), ("c", "bob")), ((), (3,))),
                             ((("a", "bob"), ("b", "bob"), ("c", "bob")), ((), (1,))), ((), ((), ())),
                             ((("c", "cat"),), ((), ())), ((("d", "ann"),), (("d",), ()))):
            self.assertEqual(broken(crew, deal), wanted)
            self.assertIs(is_kept(crew, deal), wanted == ((), ()))
        none = Crew("may ann a\nmost ann 0\nfew 1 a")
        self.assertEqual(broken(none, (("a", "ann"),)), ((), (0,)))
        self.assertEqual(broken(crew=none, deal=()), ((), ()))
        self.assertIs(is_kept(crew=none, deal=()), True)
        self.assertEqual(pattern_of(crew=none, deal=()), ())

    def test_what_is_no_deal(self):
        crew = Crew("may ann a b\nmay bob a")
        nine = tuple((task, "ann") for task in "abcdefghi")
        right = (("a", "ann"), ("b", "bob"))
        wrong = [nine, (("b", "ann"), ("a", "ann")), (("a", "ann"), ("a", "bob")), (("a", "ann"), ("a", "ann")),
                 (("a", "cat"),), (("A", "ann"),), (("a",),), (("a", "ann", "b"),), [("a", "ann")], (["a", "ann"],),
                 ("a", "ann"), ((["a"], "ann"),), (("a", ["ann"]),), (("a", crew),), (("", "ann"),)]
        for call in (broken, is_kept, pattern_of):
            call(crew, right)
            call(crew, nine[:8])
            for value in wrong + [one for one in plain.odd_values(Plan("a"), crew) if not plain.alike(one, ())]:
                self.raises(BadDeal, value, call, crew, value)
            for value in plain.near(right):
                if not people.is_deal({"ann": 1, "bob": 1}, value):
                    self.raises(BadDeal, value, call, crew, value)
                else:
                    call(crew, value)

    def test_less_of_a_kept_deal(self):
        rng = random.Random(312)
        for text in people.some_crews(rng, 60, tuple("abcdef")):
            crew, told = Crew(text), people.read(text)
            for deal in [any_deal(rng, told[0], "abcdef") for _ in range(10)]:
                if is_kept(crew, deal):
                    for many in range(len(deal)):
                        for less in itertools.combinations(deal, many):
                            self.assertIs(is_kept(crew, less), True)


class Patterns(plain.Raises, unittest.TestCase):

    def test_patterns(self):
        rng = random.Random(313)
        sizes = set()
        for text in people.some_crews(rng, 200, tuple(NAMES[:6]), 3, 6):
            crew, (mays, duties) = Crew(text), people.read(text)
            tasks = tuple(sorted(rng.sample("abcdefx", rng.randint(0, 6))))
            with self.subTest(text, tasks=tasks):
                wanted = sorted(p for p in all_patterns(tasks) if is_fair(duties, p, tasks))
                if len(wanted) > 200:
                    self.raises(TooMany, 200, patterns, crew, tasks)
                else:
                    self.assertEqual(patterns(crew, tasks), tuple(wanted))
                sizes.add(len(wanted))
        self.assertTrue(len(sizes) > 8 and max(sizes) > 200)

    def test_edges(self):
        crew = Crew("may ann a")
        self.assertEqual(patterns(crew, ()), ((),))
        self.assertEqual(patterns(crew, ("x",)), ((("x",),),))
        self.assertEqual(len(patterns(crew, tuple("abcde"))), 52)
        self.raises(TooMany, 200, patterns, crew, tuple("abcdef"))
        self.raises(TooMany, 200, patterns, crew, ALL)
        self.assertEqual(patterns(Crew(f"may ann a\nsame {' '.join(ALL)}"), ALL), ((ALL,),))
        self.assertEqual(patterns(Crew(f"may ann a\nfew 1 {' '.join(ALL)}"), ALL), ((ALL,),))
        self.assertEqual(patterns(Crew(f"may ann a\nunlike {' '.join(ALL)}"), ALL), (tuple((one,) for one in ALL),))
        self.assertEqual(patterns(Crew("may ann a\nsame a b\nunlike a b"), ("a", "b")), ())
        # Just 200, by duties of some of the tasks; a duty most bars nothing.
        self.assertEqual(patterns(crew=Crew("may ann a\nmost ann 0"), tasks=("a", "b")), ((("a",), ("b",)), (("a", "b"),)))
        sizes = {}
        for duties in itertools.combinations([f"unlike {a} {b}" for a, b in itertools.combinations("abcdef", 2)]
                                             + ["same a b", "few 2 a b c d", "few 3 a b c d e f"], 2):
            told = people.read("\n".join(["may ann a", *duties]))
            found = [p for p in all_patterns(tuple("abcdef")) if is_fair(told[1], p, "abcdef")]
            sizes[len(found)] = (duties, found)
        for size, (duties, found) in sizes.items():
            crew = Crew("\n".join(["may ann a", *duties]))
            if size > 200:
                self.raises(TooMany, 200, patterns, crew, tuple("abcdef"))
            else:
                self.assertEqual(patterns(crew, tuple("abcdef")), tuple(sorted(found)))

    def test_just_200(self):
        seven = tuple("abcdefg")
        full = Crew("may ann a\nunlike a b\nfew 3 a b c d e f\nfew 2 a b c")
        self.assertEqual(patterns(full, seven),
                         tuple(sorted(p for p in all_patterns(seven) if is_fair(full.duties, p, seven))))
        self.assertEqual(len(patterns(full, seven)), 200)
        over = Crew("may ann a\nfew 4 a b c d f\nunlike b e g\nunlike b d g")
        self.assertEqual(sum(1 for p in all_patterns(seven) if is_fair(over.duties, p, seven)), 201)
        self.raises(TooMany, 200, patterns, over, seven)

    def test_errors(self):
        crew = Crew("may ann a")
        for value in [("b", "a"), ("a", "a"), tuple("abcdefghi"), ["a"], ("A",), "a"] + [
                one for one in plain.odd_values(Plan("a"), crew)
                if not any(plain.alike(one, lot) for lot in ((), ("a",), ("b",), ("a", "b"), ("same",), ("within",),
                                                             ("alike",), ("never",)))]:
            self.raises(BadTasks, value, patterns, crew, value)
        self.assertEqual(patterns(crew, ("same", "within")), ((("same",), ("within",)), (("same", "within"),)))


if __name__ == "__main__":
    unittest.main()
