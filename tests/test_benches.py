"""Points 101 and 102: benches and blocks."""

import random
import unittest

from enoughhands import errors
from enoughhands.benches import Bench
from enoughhands.errors import (Away, BadDuty, BadNumber, BadTask, Full, Here, Known, NoDuty, NoPerson, NoTask, NotKept, NotNow,
                                NothingToRedo, NothingToUndo, NoTrial, Short, Stuck)
from enoughhands.finishing import shows_finish
from enoughhands.journals import journal, read_journal
from enoughhands.works import Works

from tests import benching, daily, plain
from tests.test_works import HOUSE

WIDE = "stock 3\nplan then(a,either(b,c))\ntask a 2 -1\ntask b 3 0\nmay ann a b\nmay bob a b c\nunlike a b\nmost bob 2"


def looks(bench):
    """All that the properties and the methods without arguments tell."""
    return {"works": bench.works.text, "first": bench.first.text, "day": bench.day, "away": bench.away, "level": bench.level,
            "done": bench.done, "is_finished": bench.is_finished, "len": len(bench), "events": bench.events(),
            "front": bench.front(), "rests": bench.rests()}


def call(bench, word, *args):
    return getattr(bench, word)(*args)


class Case(plain.Raises, unittest.TestCase):

    def same(self, bench, model):
        """That a bench tells what the model tells."""
        found, wanted = looks(bench), model.looks()
        self.assertTrue(all(plain.alike(found[key], wanted[key]) for key in wanted), (model.journal(), found, wanted))
        self.assertIsInstance(bench.works, Works)
        self.assertEqual(journal(bench), model.journal())
        for event in found["day"]:
            self.assertIn(event, bench)

    def deed(self, bench, model, deed):
        """Do a deed at both; whether it was done. What is refused changes nothing."""
        try:
            model.deed(*deed)
        except benching.Refused as refused:
            text, day, away = model.state()
            with self.assertRaises(errors.HandError, msg=(model.journal(), deed)) as caught:
                call(bench, *deed)
            self.assertEqual(type(caught.exception).__name__, refused.name, (model.journal(), deed))
            if refused.value is not benching.PAPERS:
                self.assertTrue(plain.alike(caught.exception.value, refused.value), (deed, caught.exception.value))
            else:
                self.papers(model, deed, caught.exception.value)
            return False
        self.assertIsNone(call(bench, *deed))
        return True

    def papers(self, model, deed, value):
        """That these are papers of the day that the deed would lead to."""
        text, day, away = getattr(model, deed[0])(*deed[1:], *model.state())
        self.assertTrue(benching.works(text).are_papers(day, away, value))
        self.assertIs(shows_finish(Works(text), day, away, ("never", value)), True)


class Benches(Case):

    def test_long_turns(self):
        rng = random.Random(1011)
        seen = {}
        for text in benching.some_works(rng, 45):
            bench, model = Bench(Works(text)), benching.Model(text)
            self.same(bench, model)
            for _ in range(14):
                deed = benching.any_deed(rng, model)
                with self.subTest(model.journal(), deed=deed):
                    done = self.deed(bench, model, deed)
                    seen[deed[0], done] = seen.get((deed[0], done), 0) + 1
                    self.same(bench, model)
        words = ("do", "go", "come", "give", "teach", "bind", "loose", "undo", "redo")
        self.assertTrue(all(seen.get((word, done), 0) > 3 for word in words for done in (True, False)), seen)

    def test_a_new_bench(self):
        works = Works(HOUSE)
        bench = Bench(works=works)
        self.assertEqual((bench.works, bench.first, bench.day, bench.away, bench.level, bench.done, bench.is_finished, len(bench)),
                         (works, works, (), (), 6, 0, False, 0))
        for text in (HOUSE.replace("stock 6", "stock 4"), "stock 0\nplan a\nmay ann b"):
            with self.assertRaises(Stuck) as caught:
                Bench(Works(text))
            self.assertTrue(daily.Works(text).are_papers((), (), caught.exception.value))

    def test_day(self):
        bench = Bench(Works(HOUSE))
        for task, person in (("buy", "ann"), ("lay", "bob"), ("cook", "bob"), ("sell", "ann")):
            self.assertFalse(bench.is_finished)
            self.assertIsNone(bench.do(person=person, task=task))
        self.assertEqual((bench.is_finished, bench.level, len(bench), bench.events(), bench.rests(), bench.front()),
                         (True, 10, 4, (), 1, ((0, 2),)))
        for value in plain.odd_values(bench) + [("buy", "ann"), ["buy", "ann"], ("buy", "bob"), ("lay", "bob"), "buy"]:
            self.assertIs(value in bench, any(plain.alike(value, event) for event in bench.day), value)
        self.assertIsNone(bench.go(person="bob"))
        self.assertIsNone(bench.go("ann"))
        self.assertEqual(bench.away, ("ann", "bob"))
        self.raises(Away, "ann", bench.do, "buy", "ann")
        self.assertIsNone(bench.come(person="bob"))
        self.raises(NotNow, "buy", bench.do, "buy", "bob")

    def test_errors_of_do(self):
        bench = Bench(Works(WIDE))
        for value in plain.odd_values(bench):
            if value not in ("a", "b", "c"):
                self.raises(NoTask, value, bench.do, value, None)
        for value in plain.odd_values(bench) + ["cat", ["ann"]]:
            self.raises(NoPerson, value, bench.do, "b", value)
            self.raises(NoPerson, value, bench.go, value)
            self.raises(NoPerson, value, bench.come, value)
            self.raises(NoPerson, value, bench.teach, value, None)
        bench.go("ann")
        self.raises(Away, "ann", bench.do, "b", "ann")
        self.raises(Away, "ann", bench.go, "ann")
        bench.come("ann")
        self.raises(Here, "ann", bench.come, "ann")
        self.raises(NotNow, "b", bench.do, "b", "ann")
        bench.do("a", "bob")
        # The task is not let, whoever does it.
        self.raises(Short, 1, bench.do, "b", "bob")
        self.raises(Short, 1, bench.do, "b", "ann")
        bench.give(1)
        self.raises(NotKept, ((), (0,)), bench.do, "b", "bob")
        self.raises(NotKept, (("c",), ()), bench.do, "c", "ann")
        self.raises(NotNow, "a", bench.do, "a", "bob")
        self.assertEqual(bench.done, 4)
        both = Bench(Works("stock 0\nplan then(a,b)\nmay ann a\nmay bob b\nunlike a b\nmost ann 1"))
        both.do("a", "ann")
        self.raises(NotKept, (("b",), (0, 1)), both.do, "b", "ann")

    def test_stuck(self):
        bench = Bench(Works(HOUSE))
        for deed in (("go", "ann"), ("go", "bob"), ("bind", "most bob 1"), ("bind", "unlike buy sell"), ("bind", "most ann 0")):
            with self.assertRaises(Stuck) as caught:
                call(bench, *deed)
            self.papers(benching.Model(HOUSE), deed, caught.exception.value)
        self.assertEqual((bench.done, bench.away, bench.works.text), (0, (), HOUSE))
        # With 7 it would get stuck by b.
        tight = "stock 0\nplan either(then(a,b),c)\ntask b 1 0\nmay ann a b c"
        bench = Bench(Works(tight))
        self.assertEqual(bench.events(), (("c", "ann"),))
        with self.assertRaises(Stuck) as caught:
            bench.do("a", "ann")
        self.papers(benching.Model(tight), ("do", "a", "ann"), caught.exception.value)
        bench.give(1)
        self.assertEqual(bench.events(), (("a", "ann"), ("c", "ann")))

    def test_give(self):
        bench = Bench(Works(HOUSE.replace("stock 6", "stock 99000")))
        for value in plain.odd_values(bench) + [0, -1, 1000, True, "5", (5,)]:
            if type(value) is int and 1 <= value <= 999:
                self.assertIsNone(bench.give(value))
                bench.undo()
            else:
                self.raises(BadNumber, value, bench.give, value)
        self.assertIsNone(bench.give(number=999))
        self.assertEqual((bench.level, bench.works.stock, bench.first.stock), (99999, 99999, 99000))
        self.raises(Full, 99999, bench.give, 1)
        self.raises(BadNumber, 1000, bench.give, 1000)
        bench.do("buy", "ann")
        self.assertEqual((bench.level, bench.works.stock), (99995, 99999))
        self.raises(Full, 99999, bench.give, 1)

    def test_teach(self):
        bench = Bench(Works("stock 0\nplan a\nmay ann a b c d e f g\nmay bob a"))
        for value in plain.odd_values(bench) + ["A", "a b", "", "abcdefghi"]:
            if not (type(value) is str and daily.re.fullmatch("[a-z]{1,8}", value)):
                self.raises(BadTask, value, bench.teach, "ann", value)
        self.raises(Known, "b", bench.teach, "ann", "b")
        self.assertIsNone(bench.teach(task="x", person="ann"))
        self.assertEqual(bench.works.text, "stock 0\nplan a\nmay ann a b c d e f g x\nmay bob a")
        self.raises(Full, 8, bench.teach, "ann", "y")
        self.raises(Known, "x", bench.teach, "ann", "x")
        self.raises(BadTask, "Y", bench.teach, "ann", "Y")
        self.raises(NoPerson, "cat", bench.teach, "cat", "Y")

    def test_bind_and_loose(self):
        bench = Bench(Works("stock 0\nplan then(a,b)\nmay ann a b\nmay bob b x\nmost ann 2"))
        for value in plain.odd_values(bench) + ["most ann 2", "most cat 1", "most ann 9", "most ann 01", "unlike a", "unlike a a", "unlike  a b",
                                                "unlike a b ", "few 0 a", "few 6 a", "may ann x", "may zoe a", "same", "unlike a b\nsame a b",
                                                ["most ann 1"], "bind unlike a b"]:
            self.raises(BadDuty, value, bench.bind, value)
        self.assertIsNone(bench.bind(line="unlike b a"))
        self.assertEqual(bench.works.text, "stock 0\nplan then(a,b)\nmay ann a b\nmay bob b x\nmost ann 2\nunlike b a")
        self.assertEqual(bench.works.crew.duties, (("most", "ann", 2), ("unlike", ("a", "b"))))
        self.raises(BadDuty, "unlike a b", bench.bind, "unlike a b")
        bench.do("a", "ann")
        self.raises(NotKept, ((), (2,)), bench.bind, "most ann 0")
        self.assertIsNone(bench.bind("most ann 1"))
        for value in plain.odd_values(bench) + [3, -1, True, "0"]:
            if not (type(value) is int and 0 <= value < 3):
                self.raises(NoDuty, value, bench.loose, value)
        self.assertIsNone(bench.loose(number=0))
        self.assertEqual(bench.works.crew.duties, (("unlike", ("a", "b")), ("most", "ann", 1)))
        for line in ("few 2 a b", "few 3 a b", "most bob 5", "most bob 6", "most bob 7", "most bob 8"):
            bench.bind(line)
        self.raises(BadDuty, "most ann 2", bench.bind, "most ann 2")
        bench.loose(7)
        self.raises(BadDuty, "few 4 a b", bench.bind, "few 4 a b")
        self.assertEqual(bench.bind("most ann 2"), None)

    def test_undo_and_redo(self):
        bench = Bench(Works(HOUSE))
        self.raises(NothingToUndo, None, bench.undo)
        self.raises(NothingToRedo, None, bench.redo)
        bench.do("buy", "ann")
        bench.teach("bob", "sell")
        self.assertIsNone(bench.undo())
        self.assertEqual((bench.works.text, bench.done, bench.day), (HOUSE, 1, (("buy", "ann"),)))
        self.assertIsNone(bench.undo())
        self.raises(NothingToUndo, None, bench.undo)
        self.assertIsNone(bench.redo())
        # What is refused is no deed: it can still be done again.
        self.raises(NotNow, "buy", bench.do, "buy", "ann")
        self.assertRaises(Stuck, bench.go, "bob")
        bench.redo()
        self.assertEqual((bench.done, bench.works.crew.may("bob")), (2, ("cook", "lay", "sell")))
        self.raises(NothingToRedo, None, bench.redo)
        bench.undo()
        bench.give(1)
        self.raises(NothingToRedo, None, bench.redo)
        self.assertEqual((bench.done, bench.level), (2, 3))

    def test_equality_and_copy(self):
        one, two = Bench(Works(HOUSE)), Bench(Works(HOUSE))
        self.assertTrue(one == two)
        self.assertFalse(one == Bench(Works(HOUSE.replace("stock 6", "stock 7"))))
        one.give(2)
        self.assertFalse(one == two)
        self.assertTrue(one != two)
        two.give(1)
        two.give(1)
        # The same works, by other deeds.
        self.assertEqual(one.works, two.works)
        self.assertFalse(one == two)
        two.undo()
        two.undo()
        two.give(2)
        two.do("buy", "ann")
        two.undo()
        self.assertTrue(one == two)
        self.assertFalse(one == Bench(Works(HOUSE.replace("stock 6", "stock 8"))))
        for value in plain.odd_values(Works(HOUSE)) + [journal(one), one.works]:
            self.assertFalse(one == value)
            self.assertTrue(one != value)
        other = two.copy()
        self.assertTrue(other == two)
        self.assertIsNot(other, two)
        other.redo()
        self.assertEqual((other.day, two.day), ((("buy", "ann"),), ()))
        two.redo()
        self.assertTrue(other == two)
        two.undo()
        two.give(1)
        self.assertEqual((other.level, two.level), (4, 9))
        self.raises(NothingToRedo, None, two.redo)
        other.undo()
        other.redo()


class Blocks(Case):

    def blocks(self, rng, bench, model, depth):
        """Deeds in a block, and in blocks within it."""
        ahead, kept, fails = model.copy(), rng.random() < 0.4, rng.random() < 0.2
        inner = None
        try:
            with bench.trial() as inner:
                self.assertIs(inner, bench)
                when = rng.randint(0, 4)
                for at in range(5):
                    if at == when and kept:
                        self.assertIsNone(bench.keep())
                    if rng.random() < 0.3 and depth < 3:
                        self.blocks(rng, bench, model, depth + 1)
                    else:
                        self.deed(bench, model, benching.any_deed(rng, model))
                        self.seen.add(("copy", bench.copy() == bench))
                self.same(bench, model)
                if fails:
                    raise KeyError(depth)
        except KeyError as error:
            self.assertEqual(error.args, (depth,))
        self.seen.add((kept, fails))
        if fails or not kept:
            model.stood, model.gone = ahead.stood, ahead.gone
        self.same(bench, model)

    def test_blocks(self):
        rng = random.Random(1021)
        self.seen = set()
        for text in benching.some_works(rng, 25):
            bench, model = Bench(Works(text)), benching.Model(text)
            for _ in range(3):
                self.deed(bench, model, benching.any_deed(rng, model))
                self.blocks(rng, bench, model, 0)
                self.raises(NoTrial, None, bench.keep)
        self.assertEqual(self.seen, {("copy", True), (True, True), (True, False), (False, True), (False, False)})

    def test_undo_goes_on_to_what_was_done_ahead(self):
        bench = Bench(Works(HOUSE))
        bench.do("buy", "ann")
        bench.give(1)
        bench.undo()
        with bench.trial() as one:
            one.redo()
            self.assertEqual(bench.level, 3)
            one.undo()
            one.undo()
            self.assertEqual((bench.done, bench.day), (0, ()))
            self.raises(NothingToUndo, None, one.undo)
        self.assertEqual((bench.done, bench.day, bench.level), (1, (("buy", "ann"),), 2))
        bench.redo()
        self.assertEqual((bench.done, bench.level), (2, 3))
        with bench.trial() as one:
            one.undo()
            one.keep()
            one.undo()
        self.assertEqual(bench.done, 0)
        bench.redo()
        bench.redo()
        self.raises(NothingToRedo, None, bench.redo)

    def test_it_is_entered_when_it_is_entered(self):
        bench = Bench(Works(HOUSE))
        block = bench.trial()
        bench.give(1)
        self.raises(NoTrial, None, bench.keep)
        with block:
            bench.give(2)
        self.assertEqual((bench.level, bench.done), (7, 1))

    def test_keep_belongs_to_the_innermost(self):
        bench = Bench(Works(HOUSE))
        with bench.trial():
            with bench.trial():
                bench.give(1)
                bench.keep()
            self.assertEqual(bench.level, 7)
        self.assertEqual((bench.level, bench.done), (6, 0))
        with bench.trial():
            bench.keep()
            with bench.trial():
                bench.give(1)
            bench.give(2)
        self.assertEqual((bench.level, bench.done), (8, 1))
        with bench.trial():
            with bench.trial():
                bench.give(1)
                bench.keep()
                bench.keep()
            bench.keep()
        self.assertEqual((bench.level, bench.done), (9, 2))

    def test_errors_leave_blocks(self):
        bench = Bench(Works(HOUSE))
        for error in (KeyError, errors.Short, KeyboardInterrupt):
            with self.assertRaises(error):
                with bench.trial():
                    bench.keep()
                    bench.give(1)
                    raise error(1)
            self.assertEqual((bench.level, bench.done), (6, 0))
            self.raises(NoTrial, None, bench.keep)
        # An error that does not leave the block: what was done stands.
        with bench.trial():
            self.raises(NotNow, "sell", bench.do, "sell", "ann")
            bench.give(1)
            bench.keep()
        self.assertEqual((bench.level, bench.done), (7, 1))

    def test_tried(self):
        bench = Bench(Works(HOUSE))
        self.assertEqual(bench.tried(len), 0)
        self.assertEqual(bench.tried(lambda one: (one is bench, one.do("buy", "ann"), one.level)), (True, None, 2))
        self.assertEqual((bench.done, bench.level), (0, 6))
        for value in plain.odd_values() + [1, "yes", (True,), False, None]:
            if value is not True:
                self.assertIsNone(bench.tried(lambda one: one.give(1), keep=value))
                self.assertEqual((bench.done, bench.level), (0, 6))
        self.assertIsNone(bench.tried(keep=True, look=lambda one: one.give(1)))
        self.assertEqual((bench.done, bench.level), (1, 7))
        self.assertIsNone(bench.tried(lambda one: [one.keep(), one.give(1)][0]))
        self.assertEqual((bench.done, bench.level), (2, 8))
        self.assertRaises(TypeError, bench.tried, len, True)

        def fails(one):
            one.give(1)
            one.keep()
            raise ZeroDivisionError("so")
        self.assertRaises(ZeroDivisionError, bench.tried, fails)
        self.assertRaises(ZeroDivisionError, bench.tried, fails, keep=True)
        self.raises(NotNow, "sell", bench.tried, lambda one: one.do("sell", "ann"), keep=True)
        self.assertEqual((bench.done, bench.level), (2, 8))
        self.raises(NoTrial, None, bench.keep)
        told = bench.tried(lambda one: one.tried(lambda two: two.give(3), keep=True))
        self.assertEqual((told, bench.level), (None, 8))
        bench.tried(lambda one: one.tried(lambda two: two.give(3), keep=True), keep=True)
        self.assertEqual(bench.level, 11)

    def test_copies(self):
        bench = Bench(Works(HOUSE))
        with bench.trial():
            bench.give(1)
            other = bench.copy()
            self.assertTrue(other == bench)
            self.raises(NoTrial, None, other.keep)
            other.give(1)
            self.assertEqual((bench.level, other.level), (7, 8))
        self.assertEqual((bench.level, other.level), (6, 8))
        other.undo()
        other.undo()
        self.assertTrue(other == bench)
        self.raises(NothingToUndo, None, other.undo)
        with other.trial():
            bench.give(1)
            self.raises(NoTrial, None, bench.keep)
        self.assertEqual((bench.level, other.level), (7, 6))
        self.assertEqual(read_journal(journal(bench)).level, 7)


if __name__ == "__main__":
    unittest.main()
