"""Point 43: crews beside one another."""

import random
import unittest

from enoughhands.crewbeside import (common, idle_duties, idle_mays, kept_alike, kept_within, shows_kept_alike,
                                    shows_kept_within)
from enoughhands.crews import Crew
from enoughhands.errors import Full, Nobody
from enoughhands.plans import Plan

from tests import people, plain

TASKS = ("a", "b", "c", "d")


def some_pairs(rng, many):
    """Crews, and others, some of which come of them by a small change."""
    for text in people.some_crews(rng, many, TASKS, 3, 4):
        lines = text.split("\n")
        mays = people.read(text)[0]
        way = rng.randrange(4)
        if way == 0:
            other = people.any_crew(rng, TASKS, 3, 3)
        elif way == 1 and len(lines) > len(mays):
            del lines[rng.randrange(len(mays), len(lines))]
            other = "\n".join(lines)
        elif way == 2:
            other = text + "\n" + people.line_of(people.any_duty(rng, list(mays), [*TASKS, "x"]))
        else:
            at = rng.randrange(len(mays))
            words = lines[at].split(" ")
            if len(words) > 3:
                del words[rng.randrange(2, len(words))]
            lines[at] = " ".join(words)
            other = "\n".join(lines)
        if not isinstance(people.read(other), int):
            yield (text, other) if rng.random() < 0.5 else (other, text)


def kept(told):
    """All kept deals; of other tasks than these nobody may do any."""
    return {deal for deal in people.kept_deals(told, TASKS)}


class Within(plain.Raises, unittest.TestCase):

    def test_within_and_alike(self):
        rng = random.Random(321)
        seen = set()
        for text, other in some_pairs(rng, 160):
            with self.subTest(text, other=other):
                one, two = Crew(text), Crew(other)
                a, b = kept(people.read(text)), kept(people.read(other))
                value, both = kept_within(one, two), kept_alike(one, two)
                seen.update([value[0], both[0]])
                self.assertEqual(value[0], "within" if a <= b else "more")
                self.assertEqual(both[0], "alike" if a == b else "parts")
                for value, call, right, word in ((value, shows_kept_within, a - b, "within"),
                                                 (both, shows_kept_alike, a ^ b, "alike")):
                    self.assertTrue(value == (word,) if not right else len(value) == 2 and value[1] in right)
                    self.assertIs(call(one, two, value), True)
                    name = "more" if word == "within" else "parts"
                    values = plain.near(value) + [(word,), ("more", ()), ("parts", ())]
                    values += [(name, deal) for deal in sorted(a | b)[::7] + sorted(a ^ b)[:5]]
                    for changed in values:
                        wanted = plain.alike(changed, (word,)) and not right or any(
                            plain.alike(changed, (name, deal)) for deal in right)
                        self.assertIs(call(one, two, changed), wanted, changed)
        self.assertEqual(seen, {"within", "more", "alike", "parts"})

    def test_each_kind_of_deal(self):
        base = "may ann a b c d e f g h\nmay bob a b c d e f g h\nmay cat a b c d\nmay dan a b\nmay eve a c"
        loose = Crew(base)
        for line in ("most ann 0", "most ann 3", "most bob 7", "unlike g h", "same g h", "few 1 g h", "few 3 a b c d",
                     "few 2 a e f", "few 1 a b", "same a e", "unlike a b c d e f g h", "few 4 a b c d e f g h"):
            with self.subTest(line):
                tight = Crew(base + "\n" + line)
                self.assertEqual(kept_within(tight, loose), ("within",))
                word, deal = kept_within(loose, tight)
                self.assertEqual(word, "more")
                told = people.read(tight.text)
                self.assertTrue(people.keeps(people.read(base), deal) and not people.keeps(told, deal))
                self.assertEqual(kept_alike(tight, loose)[0], "parts")
                self.assertEqual(kept_alike(loose, tight)[0], "parts")
        # What cannot be broken changes nothing.
        for line in ("most ann 8", "most dan 2", "few 5 a b c d", "few 2 g h", "unlike g x", "same x y", "few 1 x",
                     "few 4 d e f g", "few 4 b d e f g h",
                     "few 4 a b c d", "few 3 a e f", "few 2 a b"):
            with self.subTest(line):
                tight = Crew(base + "\n" + line)
                self.assertEqual(kept_within(loose, tight), ("within",))
                self.assertEqual(kept_alike(loose, tight), ("alike",))
                self.assertEqual(idle_duties(tight), (0,))

    def test_people_of_one_alone(self):
        one, other = Crew("may ann a"), Crew("may bob a")
        self.assertEqual(kept_within(one, other), ("more", (("a", "ann"),)))
        self.assertIs(shows_kept_within(one, other, ("more", (("a", "bob"),))), False)
        self.assertIs(shows_kept_alike(one, other, ("parts", (("a", "bob"),))), True)
        self.assertIs(shows_kept_alike(one, other, ("parts", (("a", "cat"),))), False)
        none = Crew("may ann a\nmost ann 0")
        self.assertEqual(kept_within(none, other), ("within",))
        self.assertEqual(kept_alike(none, Crew("may bob x y\nmost bob 0")), ("alike",))
        self.assertEqual(kept_within(one=one, other=one), ("within",))
        self.assertEqual(kept_alike(one=one, other=one), ("alike",))
        self.assertIs(shows_kept_within(one=one, other=one, value=("within",)), True)
        self.assertIs(shows_kept_alike(one=one, other=one, value=("alike",)), True)

    def test_other_values(self):
        one, other = Crew("may ann a b\nmay bob b"), Crew("may ann a b\nmay bob b\nsame a b")
        for value in plain.odd_values(Plan("a"), one):
            self.assertIs(shows_kept_within(one, other, value), False, value)
            self.assertIs(shows_kept_alike(one, other, value), False, value)
            self.assertIs(shows_kept_within(other, one, value), plain.alike(value, ("within",)), value)
            self.assertIs(shows_kept_alike(one, one, value), plain.alike(value, ("alike",)), value)
        for call, word in ((shows_kept_within, "more"), (shows_kept_alike, "parts")):
            self.assertIs(call(one, other, (word, (("a", "ann"), ("b", "bob")))), True)
            for deal in ((("b", "bob"), ("a", "ann")), [("a", "ann"), ("b", "bob")], (("a", "bob"), ("b", "ann")),
                         (["a", "ann"], ("b", "bob")), None, "a", one, ()):
                self.assertIs(call(one, other, (word, deal)), False)


class Idle(plain.Raises, unittest.TestCase):

    def test_idle(self):
        rng = random.Random(322)
        found = set()
        for text in people.some_crews(rng, 130, TASKS, 3, 5):
            told = people.read(text)
            with self.subTest(text):
                mays, duties = told
                deals = kept(told)
                wanted = tuple(at for at in range(len(duties))
                               if kept((mays, duties[:at] + duties[at + 1:])) == deals)
                crew = Crew(text)
                self.assertEqual(idle_duties(crew), wanted)
                pairs = {pair for deal in deals for pair in deal}
                idle = tuple(sorted((task, person) for person in mays for task in mays[person]
                                    if (task, person) not in pairs))
                self.assertEqual(idle_mays(crew), idle)
                found.update([wanted, bool(idle)])
        self.assertTrue({(), (0,), True, False} < found)

    def test_edges(self):
        self.assertEqual(idle_duties(crew=Crew("may ann a")), ())
        self.assertEqual(idle_mays(crew=Crew("may ann a")), ())
        # Each of both by itself can be left out, not both together.
        self.assertEqual(idle_duties(Crew("may ann a b\nmost ann 1\nunlike a b")), (0, 1))
        self.assertEqual(idle_duties(Crew("may ann a b\nmay bob b\nsame a b\nfew 1 a b")), (0, 1))
        self.assertEqual(idle_duties(Crew("may ann a b\nmay bob b\nmost ann 1\nunlike a b c")), (0, 1))
        self.assertEqual(idle_mays(Crew("may ann b a\nmost ann 0")), (("a", "ann"), ("b", "ann")))
        self.assertEqual(idle_mays(Crew("may ann b\nmay bob a\nmost ann 0\nmost bob 0")), (("a", "bob"), ("b", "ann")))


class Common(plain.Raises, unittest.TestCase):

    def text_of(self, one, other):
        """The text of the common crew, the word of an error, or None for nobody."""
        (mays, duties), (others, behind) = people.read(one), people.read(other)
        left = {person: [task for task in mays[person] if task in others[person]] for person in mays if person in others}
        left = {person: left[person] for person in left if left[person]}
        if not left:
            return (Nobody, None)
        lines = one.split("\n")[len(mays):] + [
            line for line, duty in zip(other.split("\n")[len(others):], behind) if duty not in duties]
        lines = [line for line in lines if not line.startswith("most") or line.split(" ")[1] in left]
        if len(lines) > 8:
            return (Full, 8)
        if sum(line.startswith("few") for line in lines) > 2:
            return (Full, 2)
        return "\n".join([f"may {person} {' '.join(left[person])}" for person in left] + lines)

    def test_common(self):
        rng = random.Random(323)
        seen = set()
        pairs = [pair for at in range(3) for pair in some_pairs(rng, 120)]
        pairs += [(people.any_crew(rng, TASKS, 3, 8), people.any_crew(rng, TASKS, 3, 8)) for _ in range(150)]
        for text, other in pairs:
            with self.subTest(text, other=other):
                wanted = self.text_of(text, other)
                if isinstance(wanted, tuple):
                    self.raises(*wanted, common, Crew(text), Crew(other))
                    seen.add(wanted)
                    continue
                seen.add("text")
                got = common(Crew(text), Crew(other))
                self.assertEqual(got.text, wanted)
                self.assertEqual(kept(people.read(got.text)), kept(people.read(text)) & kept(people.read(other)))
        self.assertEqual(seen, {"text", (Nobody, None), (Full, 8), (Full, 2)})

    def test_edges(self):
        one = Crew("may ann c b a\nmay bob a\nmost bob 1\nunlike b a\nfew 2 c b")
        other = Crew("may cat a\nmay ann a b d\nfew 2 b c\nsame b a\nmost cat 1\nmost ann 2")
        self.assertEqual(common(one=one, other=other).text, "may ann b a\nunlike b a\nfew 2 c b\nsame b a\nmost ann 2")
        self.assertEqual(common(one, one).text, one.text)
        self.raises(Nobody, None, common, Crew("may ann a"), Crew("may ann b"))
        self.raises(Nobody, None, common, Crew("may ann a"), Crew("may bob a"))
        # Nobody is left, and too many duties: nobody comes first.
        many = [f"unlike a {task}" for task in "bcdefgh"]
        self.raises(Nobody, None, common, Crew("\n".join(["may ann a"] + many)),
                    Crew("\n".join(["may bob a", "few 1 a", "few 2 a"])))
        five = Crew("\n".join(["may ann a"] + many[:5]))
        self.raises(Full, 8, common, five, Crew("may ann a\nfew 1 a\nfew 2 a\nsame b c\nsame c d"))
        self.assertEqual(len(common(five, Crew("may ann a\nfew 1 a\nfew 2 a\nsame c d")).duties), 8)
        self.raises(Full, 2, common, Crew("may ann a\nfew 1 a\nfew 2 a"), Crew("may ann a\nfew 3 a"))
        self.assertEqual(len(common(Crew("may ann a\nfew 1 a\nfew 2 a"), Crew("may ann a\nfew 2 a")).duties), 2)
        # What is left out is not counted.
        self.assertEqual(len(common(Crew("\n".join(["may ann a"] + many)),
                                    Crew("may ann a\nmay bob a\nmost bob 1\nmost bob 2")).duties), 7)


if __name__ == "__main__":
    unittest.main()
