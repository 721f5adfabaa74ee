"""Point 41: crews."""

import random
import unittest

from enoughhands.crews import Crew
from enoughhands.errors import BadCrew, BadDuty, BadTask, Full, Held, Known, Last, NoDuty, NoPerson, NotKnown
from enoughhands.plans import Plan

from tests import people, plain

TEXT = "may ann buy bake sell\nmay bob cook lay sell\nmay cat bake lay\nunlike buy sell\nfew 2 buy cook lay sell"
EIGHT = "a b c d e f g h"
WORDS = ["may", "most", "unlike", "same", "few", "ann", "bob", "zed", "a", "b", "x", "abcdefgh", "abcdefghi", "0", "1",
         "2", "5", "6", "8", "9", "-1", "-0", "01", "+1", "1.", "A", "a,b", "", " ", "then", "either", "beside", "a1",
         "\t", "1_0", "None", "()"]
FULL = "\n".join([f"may {person} {EIGHT}" for person in people.PEOPLE]
                 + ["most ann 8", "most bob 0", f"unlike {EIGHT}", f"same {EIGHT}", f"few 1 {EIGHT}", "few 5 a",
                    "unlike a b", "most ann 7"])
RIGHT = [TEXT, FULL, "may a a", "may then then either beside may most", "may ann a\nmost ann 0", "may ann a\nmost ann 8",
         "may ann a\nmost ann 1\nmost ann 2", "may ann a\nunlike x y\nsame x y\nfew 5 x\nfew 5 y",
         "may abcdefgh abcdefgh", "may ann a\nunlike a b\nunlike a c", "may ann a\nfew 1 a\nfew 2 a"]
WRONG = {"": 1, "\n": 1, "may ann": 1, "may ann a\n": 2, "most ann 1": 1, "may ann a a": 1, "may ann a\nmay ann b": 2,
         f"may ann {EIGHT} i": 1, "may ann a\nmost bob 1": 2, "may ann a\nmost ann 9": 2, "may ann a\nmost ann -1": 2,
         "may ann a\nmost ann 01": 2, "may ann a\nmost ann": 2, "may ann a\nmost ann 1 1": 2, "may ann a\nunlike a": 2,
         "may ann a\nunlike a a": 2, f"may ann a\nsame {EIGHT} i": 2, "may ann a\nsame a": 2, "may ann a\nfew 0 a": 2,
         "may ann a\nfew 6 a": 2, "may ann a\nfew 1": 2, f"may ann a\nfew 1 {EIGHT} i": 2, "may ann a\nfew a": 2,
         "may ann a\nunlike a b\nunlike b a": 3, "may ann a\nfew 1 a b\nfew 1 b a": 3, "may ann a\nfew 1 a a": 2,
         "may ann a\nfew 1 a\nfew 1 b\nfew 1 c": 4, "may ann a\nsame a b\nmay bob a": 3, " may ann a": 1,
         "may ann a ": 1, "may ann  a": 1, "May ann a": 1, "may Ann a": 1, "may ann a\nMost ann 1": 2,
         "may ann a\n\nmost ann 1": 2, FULL + "\nunlike a c": 14, "may ann a\nlike a b": 2, "may ann a\nmay bob a1": 2,
         "may ann a\r\nmay bob a": 1, FULL.replace("most ann 8", f"may fay {EIGHT}", 1): 6}


class Texts(plain.Raises, unittest.TestCase):

    def check(self, text):
        told = people.read(text)
        if isinstance(told, int):
            self.raises(BadCrew, told, Crew, text)
            return
        crew = Crew(text)
        mays, duties = told
        self.assertEqual((crew.text, crew.people, crew.duties), (text, tuple(mays), tuple(duties)))
        for person in mays:
            self.assertEqual(crew.may(person), tuple(sorted(mays[person])))
        self.assertEqual(len(crew), len(mays))

    def test_right_and_wrong(self):
        for text in RIGHT:
            with self.subTest(text):
                self.assertNotIsInstance(people.read(text), int)
                self.check(text)
        for text, number in WRONG.items():
            with self.subTest(text):
                self.raises(BadCrew, number, Crew, text)
                self.assertEqual(people.read(text), number)
        self.assertEqual(Crew(text=TEXT).text, TEXT)

    def test_texts_near(self):
        """Texts with a line or a word out, twice, put in, exchanged or otherwise."""
        rng = random.Random(301)
        right = wrong = 0
        for text in people.some_crews(rng, 150) + RIGHT * 8:
            for _ in range(12):
                changed = self.changed(rng, text)
                with self.subTest(changed):
                    self.check(changed)
                right, wrong = (right + 1, wrong) if not isinstance(people.read(changed), int) else (right, wrong + 1)
        self.assertTrue(right > 300 and wrong > 300)

    def changed(self, rng, text):
        lines = text.split("\n")
        at = rng.randrange(len(lines))
        way = rng.randrange(9)
        words = lines[at].split(" ")
        to = rng.randrange(len(words))
        if way == 0:
            del lines[at]
        elif way == 1:
            lines.insert(rng.randrange(len(lines) + 1), lines[at])
        elif way == 2:
            lines.append(lines.pop(at))
        elif way == 3:
            lines.insert(at, " ".join(rng.choice(WORDS) for _ in range(rng.randint(0, 4))))
        elif way == 4:
            del words[to]
        elif way == 5:
            words.insert(to, rng.choice(words))
        elif way == 6:
            words.insert(rng.randint(0, len(words)), rng.choice(WORDS))
        elif way == 7:
            words[to] = rng.choice(WORDS)
        else:
            words[to] = words[to].upper()
        if way > 3:
            lines[at] = " ".join(words)
        return "\n".join(lines)

    def test_other_values(self):
        for value in plain.odd_values(Plan("a"), Crew("may a a")):
            if type(value) is str:
                self.raises(BadCrew, 1, Crew, value)
            else:
                self.raises(BadCrew, 0, Crew, value)

    def test_equality(self):
        crew = Crew(TEXT)
        self.assertTrue(crew == Crew(TEXT))
        self.assertFalse(crew != Crew(TEXT))
        # The same said otherwise is not the same text.
        self.assertFalse(Crew("may ann a b") == Crew("may ann b a"))
        self.assertTrue(Crew("may ann a b") != Crew("may ann b a"))
        for value in plain.odd_values(Plan("a"), Crew("may a a")) + [TEXT, (TEXT,)]:
            self.assertFalse(crew == value)
            self.assertTrue(crew != value)

    def test_people(self):
        crew = Crew(TEXT)
        self.assertEqual(len(Crew("may a a")), 1)
        self.assertEqual(len(Crew(FULL)), 5)
        for person in ("ann", "bob", "cat"):
            self.assertIs(person in crew, True)
        for value in plain.odd_values(Plan("a"), crew) + ["dan", "buy", "ANN", "an", ("ann",), ["ann"]]:
            self.assertIs(value in crew, False, value)
            self.raises(NoPerson, value, crew.may, value)
        self.assertEqual(crew.may(person="bob"), ("cook", "lay", "sell"))


class Changed(plain.Raises, unittest.TestCase):

    def test_with_and_without_may(self):
        rng = random.Random(302)
        for text in people.some_crews(rng, 80) + RIGHT:
            mays, duties = people.read(text)
            crew = Crew(text)
            for person in mays:
                for task in ("a", "b", "c", "d", "e", "x", "then"):
                    with self.subTest(text, person=person, task=task):
                        lines = text.split("\n")
                        at = list(mays).index(person)
                        if task in mays[person]:
                            self.raises(Known, task, crew.with_may, person, task)
                            lines[at] = " ".join(["may", person] + [one for one in mays[person] if one != task])
                            if len(mays[person]) == 1:
                                self.raises(Last, task, crew.without_may, person, task)
                            else:
                                self.assertEqual(crew.without_may(person, task).text, "\n".join(lines))
                        else:
                            self.raises(NotKnown, task, crew.without_may, person, task)
                            lines[at] += " " + task
                            if len(mays[person]) == 8:
                                self.raises(Full, 8, crew.with_may, person, task)
                            else:
                                self.assertEqual(crew.with_may(person, task).text, "\n".join(lines))
            self.assertEqual(crew.text, text)

    def test_errors_of_mays(self):
        crew = Crew("may ann a b c d e f g h\nmay bob a")
        self.assertEqual(crew.with_may(person="bob", task="b").text, "may ann a b c d e f g h\nmay bob a b")
        self.assertEqual(crew.without_may(person="ann", task="d").text, "may ann a b c e f g h\nmay bob a")
        self.assertEqual(len(crew.without_may("ann", "h").with_may("ann", "i").may("ann")), 8)
        self.raises(NoPerson, "cat", crew.with_may, "cat", None)
        self.raises(BadTask, "A", crew.with_may, "ann", "A")
        self.raises(Known, "a", crew.with_may, "ann", "a")
        self.raises(Full, 8, crew.with_may, "ann", "i")
        self.raises(NoPerson, "cat", crew.without_may, "cat", None)
        self.raises(Last, "a", crew.without_may, "bob", "a")
        for value in plain.odd_values(Plan("a"), crew):
            for call in (crew.with_may, crew.without_may):
                self.raises(NoPerson, value, call, value, value)
            if value not in ("a", "b", "run", "stuck", "then", "either") or type(value) is not str:
                self.raises(BadTask, value, crew.with_may, "ann", value)
            if not plain.alike(value, "a"):
                self.raises(NotKnown, value, crew.without_may, "bob", value)

    def test_with_and_without_duty(self):
        rng = random.Random(303)
        for text in people.some_crews(rng, 80, duties=8) + RIGHT:
            mays, duties = people.read(text)
            crew = Crew(text)
            lines = text.split("\n")
            for number in range(len(duties)):
                at = len(mays) + number
                self.assertEqual(crew.without_duty(number).text, "\n".join(lines[:at] + lines[at + 1:]))
            for number in (-1, len(duties), 9):
                self.raises(NoDuty, number, crew.without_duty, number)
            for _ in range(6):
                duty = people.any_duty(rng, list(mays), "abcdx")
                with self.subTest(text, duty=duty):
                    if duty in duties:
                        self.raises(Held, duty, crew.with_duty, duty)
                    elif len(duties) == 8:
                        self.raises(Full, 8, crew.with_duty, duty)
                    elif duty[0] == "few" and len(people.few((mays, duties))) == 2:
                        self.raises(Full, 2, crew.with_duty, duty)
                    else:
                        more = crew.with_duty(duty)
                        self.assertEqual(more.text, text + "\n" + people.line_of(duty))
                        self.assertEqual(more.duties, (*duties, duty))
                        self.assertEqual(more.without_duty(len(duties)), crew)

    def is_duty(self, mays, value):
        """Whether a value is told as a duty, by the line that it would have."""
        if type(value) is not tuple or not value or type(value[0]) is not str:
            return False
        told = [part for part in value if type(part) is tuple]
        if told and (len(told) > 1 or told[0] != value[-1] or not all(type(word) is str for word in told[0])):
            return False
        words = [part for part in value if type(part) is not tuple] + list(told[0] if told else ())
        if any(type(word) not in (str, int) for word in words):
            return False
        got = people.read("\n".join([f"may {person} a" for person in mays] + [" ".join(map(str, words))]))
        return not isinstance(got, int) and plain.alike(got[1][0], value) if len(value) > 1 else False

    def test_what_is_no_duty(self):
        crew = Crew("may ann a b\nmay bob a")
        right = [("most", "ann", 0), ("most", "bob", 8), ("unlike", ("a", "b")), ("same", tuple("abcdefgh")),
                 ("few", 1, ("a",)), ("few", 5, tuple("abcdefgh")), ("unlike", ("a", "then"))]
        wrong = [("most", "ann", 9), ("most", "ann", -1), ("most", "cat", 1), ("most", "ann"), ("unlike", ("a",)),
                 ("unlike", ("b", "a")), ("same", ("a", "a")), ("same", tuple("abcdefghi")), ("few", 0, ("a",)),
                 ("few", 6, ("a",)), ("few", 1, ()), ("few", 1, tuple("abcdefghi")), ("few", ("a",)), ("unlike",),
                 ("unlike", "a", "b"), ("like", ("a", "b")), "most ann 1", ["most", "ann", 1], ("most", "ann", True),
                 ("few", True, ("a",)), ("unlike", ["a", "b"]), ("few", 2, ("a", "A")), ("may", "ann", "b"), (), None,
                 ("most", ["ann"], 1), ({}, 1, 2), ("most", "ann", "1"), ("most", "ann", 1, 1)]
        for duty in right:
            self.assertEqual(crew.with_duty(duty=duty).duties, (duty,))
        for duty in wrong + plain.odd_values(Plan("a"), crew):
            self.raises(BadDuty, duty, crew.with_duty, duty)
        for duty in right:
            for value in plain.near(duty):
                with self.subTest(value=value):
                    if self.is_duty(("ann", "bob"), value):
                        self.assertEqual(crew.with_duty(value).duties, (value,))
                    else:
                        self.raises(BadDuty, value, crew.with_duty, value)

    def test_full_and_held(self):
        full = Crew(FULL)
        self.raises(Held, ("few", 5, ("a",)), full.with_duty, ("few", 5, ("a",)))
        self.raises(Full, 8, full.with_duty, ("few", 4, ("a",)))
        self.raises(Full, 2, full.without_duty(0).with_duty, ("few", 4, ("a",)))
        self.raises(BadDuty, ("few", 6, ("a",)), full.with_duty, ("few", 6, ("a",)))
        self.assertEqual(len(full.without_duty(5).with_duty(("few", 4, ("a",))).duties), 8)
        # The same tasks in another sequence are the same duty.
        self.raises(Held, ("same", ("a", "b")), Crew("may ann a\nsame b a").with_duty, ("same", ("a", "b")))
        for value in plain.odd_values(Plan("a"), full):
            if not plain.is_int(value) or not 0 <= value < 8:
                self.raises(NoDuty, value, full.without_duty, value)
        self.assertEqual(full.without_duty(number=7).text, FULL.rpartition("\n")[0])
        self.raises(NoDuty, 0, Crew("may a a").without_duty, 0)


if __name__ == "__main__":
    unittest.main()
