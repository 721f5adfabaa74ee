"""Points 103 and 104: journals and desks."""

import random
import re
import unittest

from enoughhands import errors
from enoughhands.benches import Bench
from enoughhands.desk import Desk
from enoughhands.errors import BadDuty, BadJournal, BadNumber, BadSaying, NoPerson, NotNow, NothingToRedo, NothingToUndo, NoTask
from enoughhands.journals import journal, read_journal
from enoughhands.works import Works

from tests import benching, daily, plain
from tests.test_works import HOUSE

TEXT = HOUSE + "\nbench\ndo buy ann\nteach ann cook\nteach ann lay\ngo bob\ncome bob\nbind unlike buy cook\ngive 7\nloose 0"
QUESTIONS = ("events", "front", "level", "rests", "left", "away")


def any_journal(rng, text, many=6):
    """The model of a bench behind some deeds."""
    model = benching.Model(text)
    for _ in range(many):
        try:
            model.deed(*benching.any_deed(rng, model))
        except benching.Refused:
            pass
    return model


def changed_texts(rng, text):
    """Texts that are near to a journal."""
    lines = text.split("\n")
    at, other = rng.randrange(len(lines)), rng.randrange(len(lines))
    words = lines[at].split(" ")
    word = rng.randrange(len(words))
    exchanged = list(lines)
    exchanged[at], exchanged[other] = lines[other], lines[at]
    put_in = ["bench", "", "do a ann", "go ann", "give 1", "give 01", "give +1", "give -0", "give 1 ", " give 1", "loose 0", "undo", "teach ann x",
              "bind", "bind ", "bind most ann 1", "bind  most ann 1", "come", "do a", "do  a ann", "go ann bob", "rests", "give", "give x", "bench "]
    found = [lines[:at] + lines[at + 1:], lines[:at] + [lines[at]] + lines[at:], exchanged,
             lines[:at] + [rng.choice(put_in)] + lines[at:], lines + [rng.choice(put_in)],
             lines[:at] + [" ".join(words[:word] + [rng.choice(("ann", "x", "7", "", "bench", "do"))] + words[word + 1:])] + lines[at + 1:],
             lines[:at] + [" ".join(words[:word] + words[word + 1:])] + lines[at + 1:],
             lines[:at] + [" ".join(words[:word] + [words[word]] + words[word:])] + lines[at + 1:],
             lines[:at] + [lines[at].replace(" ", "  ", 1)] + lines[at + 1:], lines[:at] + [lines[at] + " "] + lines[at + 1:],
             lines[:at] + [re.sub("([0-9])", "0\\1", lines[at])] + lines[at + 1:], lines[:at]]
    return ["\n".join(one) for one in found]


class Journals(plain.Raises, unittest.TestCase):

    def reads(self, text):
        """That a text is read, or not, as the model reads it."""
        wanted = benching.read_journal(text)
        if isinstance(wanted, int):
            self.raises(BadJournal, wanted, read_journal, text)
            self.raises(BadJournal, wanted, Desk, text)
            return wanted
        for bench in (read_journal(text), Desk(text).bench):
            self.assertIsInstance(bench, Bench)
            self.assertEqual(journal(bench), text)
            self.assertEqual((bench.works.text, bench.day, bench.away), wanted.state())
            self.assertEqual((bench.first.text, bench.done), (wanted.first, len(wanted.stood)))
        return None

    def test_journals_are_read_back(self):
        rng = random.Random(1031)
        for text in benching.some_works(rng, 60):
            bench, model = Bench(Works(text)), benching.Model(text)
            for _ in range(8):
                deed = benching.any_deed(rng, model)
                try:
                    model.deed(*deed)
                    getattr(bench, deed[0])(*deed[1:])
                except benching.Refused:
                    continue
                told = journal(bench=bench)
                self.assertEqual(told, model.journal())
                other = read_journal(text=told)
                self.assertTrue(other == bench)
                self.assertEqual((other.works.text, other.day, other.away, other.level, other.done, other.is_finished, other.events()),
                                 (bench.works.text, bench.day, bench.away, bench.level, bench.done, bench.is_finished, bench.events()))
                self.raises(NothingToRedo, None, other.redo)

    def test_texts_near_to_journals(self):
        rng = random.Random(1032)
        seen = {}
        for text in benching.some_works(rng, 60):
            model = any_journal(rng, text, 8)
            for _ in range(3):
                for changed in changed_texts(rng, model.journal()):
                    with self.subTest(changed):
                        wrong = self.reads(changed)
                        where = "read" if wrong is None else (wrong > changed.count("\n") + 1, wrong > len(text.split("\n")))
                        seen[where] = seen.get(where, 0) + 1
        self.assertTrue(min(seen[where] for where in ("read", (True, True), (False, True), (False, False))) > 20, seen)

    def test_numbers(self):
        house = HOUSE.count("\n") + 1
        for text, wrong in ((HOUSE, house + 1), ("", 2), ("bench", 1), ("bench\nbench", 1), ("stock 6\nbench", 2), ("stock x\nbench", 1),
                            ("stock 0\nplan a\nbench", 3), ("stock 0\nplan a\nmay ann b\nbench", 4), ("x\n" + HOUSE, house + 2),
                            (HOUSE.replace("stock 6", "stock 4") + "\nbench\nbad", house + 1), (HOUSE + "\nbench", None),
                            (HOUSE + "\nbench\n", house + 2), (HOUSE + "\nbench\ndo sell ann", house + 2), (TEXT, None),
                            (TEXT + "\nbench", house + 10), (TEXT + "\ndo buy ann\nx", house + 10), (HOUSE + "\n\nbench", house + 1),
                            (HOUSE + "\nbench \nbench", house + 1), ("bench\n" + HOUSE, 1), ("a\nb\nc", 4), (HOUSE + "\nbench\nundo", house + 2)):
            self.assertEqual(self.reads(text), wrong, text)

    def test_what_is_no_string(self):
        for value in plain.odd_values(Works(HOUSE), Bench(Works(HOUSE))):
            if not isinstance(value, str):
                self.raises(BadJournal, 0, read_journal, value)
                self.raises(BadJournal, 0, Desk, value)
            else:
                self.reads(value)
        self.raises(BadJournal, 0, read_journal, text=[TEXT])
        self.raises(BadJournal, 0, Desk, text=None)

    def test_behind_undo_and_redo(self):
        bench = read_journal(TEXT)
        self.assertEqual(journal(bench), TEXT)
        bench.undo()
        bench.undo()
        self.assertEqual(journal(bench), TEXT.replace("\ngive 7\nloose 0", ""))
        bench.redo()
        self.assertEqual(journal(bench), TEXT.replace("\nloose 0", ""))
        with bench.trial():
            bench.give(1)
            self.assertEqual(journal(bench), TEXT.replace("\nloose 0", "\ngive 1"))
        bench.redo()
        self.assertEqual(journal(bench), TEXT)


class Desks(plain.Raises, unittest.TestCase):

    def answer(self, model, line):
        """What a desk answers, by the model; Refused with the error, BadSaying for what cannot be said."""
        told = model.looks()
        text, day, away = model.state()
        if line in ("undo", "redo"):
            model.deed(line)
            return "ok"
        if line in QUESTIONS:
            left = plain.rest_text(daily.Works(text).plan, [task for task, person in day])
            return {"events": " ".join(f"{task}:{person}" for task, person in told["events"]),
                    "front": " ".join(f"{need}:{number}" for need, number in told["front"]), "level": str(told["level"]),
                    "rests": str(told["rests"]), "left": "done" if left is None else left, "away": " ".join(away)}[line]
        deed = benching.read_line(line) if isinstance(line, str) and "\n" not in line else None
        if deed is None:
            raise benching.Refused("BadSaying", line)
        model.deed(*deed)
        return "ok"

    def says(self, desk, model, line):
        """That a desk says what the model says; what it is."""
        try:
            wanted = self.answer(model, line)
        except benching.Refused as refused:
            with self.assertRaises(errors.HandError) as caught:
                desk.say(line)
            self.assertEqual(type(caught.exception).__name__, refused.name, (model.journal(), line))
            if refused.value is not benching.PAPERS:
                self.assertTrue(caught.exception.value is refused.value or plain.alike(caught.exception.value, refused.value))
            wanted = refused.name
        else:
            self.assertTrue(plain.alike(desk.say(line), wanted), (model.journal(), line, wanted))
        self.assertEqual(journal(desk.bench), model.journal())
        return wanted

    def test_all_lines(self):
        rng = random.Random(1041)
        seen = set()
        for text in benching.some_works(rng, 40):
            model = any_journal(rng, text, 3)
            desk, bench = Desk(model.journal()), None
            model.gone = []
            bench = desk.bench
            for _ in range(14):
                line = " ".join(str(word) for word in benching.any_deed(rng, model))
                line = rng.choice((line, line, line, rng.choice(QUESTIONS), line + " x", line.replace(" ", "  ", 1)))
                with self.subTest(model.journal(), line=line):
                    seen.add(self.says(desk, model, line))
            for line in QUESTIONS:
                seen.add((line, bool(self.says(desk, model, line))))
            self.assertIs(desk.bench, bench)
        self.assertTrue({"ok", "BadSaying", "Stuck", "NoPerson", "BadNumber", "NotNow", "NothingToUndo", "BadDuty"} <= seen, seen)
        self.assertTrue({("events", True), ("events", False), ("away", True), ("away", False)} <= seen)

    def test_the_very_bench(self):
        desk = Desk(text=TEXT)
        desk.bench.undo()
        self.assertEqual(desk.say(line="redo"), "ok")
        self.assertEqual(desk.say("level"), str(desk.bench.level))
        with desk.bench.trial():
            desk.say("do cook bob")
            self.assertEqual((desk.say("left"), desk.say("level")), ("then(lay,sell)", "8"))
        self.assertEqual((desk.say("left"), desk.say("level")), ("then(either(bake,beside(cook,lay)),sell)", "9"))

    def test_finished(self):
        desk = Desk(TEXT)
        for line in ("do cook bob", "do lay bob", "do sell ann"):
            self.assertEqual(desk.say(line), "ok")
        self.assertEqual([desk.say(line) for line in ("left", "events", "rests", "front", "away")], ["done", "", "1", "0:2", ""])
        desk.say("go bob")
        desk.say("go ann")
        self.assertEqual(desk.say("away"), "ann bob")

    def test_bad_sayings(self):
        desk, model = Desk(TEXT), benching.read_journal(TEXT)
        lines = ["", " ", "do", "do ", "do buy", "do buy ", "do buy ann ", " do buy ann", "do  buy ann", "do buy ann x", "do buy\nann", "DO buy ann",
                 "go", "go ", "go ann bob", "come", "come ann bob", "give", "give ", "give x", "give 01", "give +1", "give -0", "give --1", "give 1_0",
                 "give 1 2", "give -", "loose", "loose x", "loose 00", "teach", "teach ann", "teach ann x y", "bind", "bindx", "undo ", " undo",
                 "undo 1", "redo x", "events ", "front x", "level 1", "left 1", "rests 1", "away ann", "bench", "stock 6", "level\n", "\n", "keep",
                 "bind unlike buy lay\n", "bind \n", "go ann\n", "events\nfront"]
        for line in lines + [value for value in plain.odd_values(desk.bench) if not isinstance(value, str)]:
            self.raises(BadSaying, line, desk.say, line)
            self.assertEqual(self.says(desk, model, line), "BadSaying")
        self.raises(BadSaying, None, desk.say, line=None)

    def test_errors_of_the_bench(self):
        desk = Desk(HOUSE + "\nbench")
        self.raises(NoTask, "x", desk.say, "do x ann")
        self.raises(NoTask, "X-1", desk.say, "do X-1 !")
        self.raises(NoPerson, "!", desk.say, "do buy !")
        self.raises(NoPerson, "buy", desk.say, "go buy")
        self.raises(NotNow, "sell", desk.say, "do sell ann")
        self.raises(BadNumber, -5, desk.say, "give -5")
        self.raises(BadNumber, 0, desk.say, "give 0")
        self.raises(BadDuty, "", desk.say, "bind ")
        self.raises(BadDuty, " most ann 1", desk.say, "bind  most ann 1")
        self.raises(BadDuty, "bind", desk.say, "bind bind")
        self.raises(errors.NoDuty, 0, desk.say, "loose 0")
        self.raises(errors.Here, "ann", desk.say, "come ann")
        self.raises(errors.Known, "buy", desk.say, "teach ann buy")
        self.raises(errors.BadTask, "X", desk.say, "teach ann X")
        self.raises(NothingToUndo, None, desk.say, "undo")
        self.raises(NothingToRedo, None, desk.say, "redo")
        self.assertRaises(errors.Stuck, desk.say, "go ann")
        self.assertEqual(journal(desk.bench), HOUSE + "\nbench")


if __name__ == "__main__":
    unittest.main()
