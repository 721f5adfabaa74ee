"""What the document says of a bench, gone through plainly: a model of it, on the lines of texts.

Nothing here calls the package. What is refused is told by the name of the error and its value; PAPERS stands
for any papers.
"""

import functools
import re

from tests import daily, people, plain
from tests.test_fronts import best, points

PAPERS = object()
NAME = "[a-z]{1,8}"
INTEGER = "(?:0|-?[1-9][0-9]*)"
WORD = "[^ \n]+"
FORMS = {"do": f"do ({WORD}) ({WORD})", "go": f"go ({WORD})", "come": f"come ({WORD})", "give": f"give ({INTEGER})",
         "teach": f"teach ({WORD}) ({WORD})", "bind": "bind (.*)", "loose": f"loose ({INTEGER})"}


class Refused(Exception):
    """Why something is refused."""

    def __init__(self, name, value=None):
        Exception.__init__(self, name, value)
        self.name, self.value = name, value


@functools.lru_cache(maxsize=4000)
def works(text):
    return daily.Works(text)


@functools.lru_cache(maxsize=20000)
def all_rests(text, day, away):
    return works(text).rests(day, away)


def is_one(value, names):
    return type(value) is str and value in names


class Model:
    """A bench."""

    def __init__(self, text):
        if not all_rests(text, (), ()):
            raise Refused("Stuck", PAPERS)
        self.first = text
        self.stood, self.gone = [], []

    def state(self):
        return self.stood[-1][1:] if self.stood else (self.first, (), ())

    def copy(self):
        other = Model(self.first)
        other.stood, other.gone = list(self.stood), list(self.gone)
        return other

    def journal(self):
        return "\n".join([self.first, "bench"] + [one[0] for one in self.stood])

    def looks(self):
        """All that the properties and the methods without arguments tell."""
        text, day, away = self.state()
        told = works(text)
        rests = all_rests(text, day, away)
        events = tuple(event for event in told.events(day, away) if all_rests(text, day + (event,), away))
        return {"works": text, "first": self.first, "day": day, "away": away, "level": told.level(day), "done": len(self.stood),
                "is_finished": told.is_finished(day), "len": len(day), "events": events,
                "front": best(points(told, day, away)), "rests": len(rests)}

    def deed(self, word, *args):
        """Do a deed, or undo or redo; Refused if it is refused."""
        if word == "undo":
            if not self.stood:
                raise Refused("NothingToUndo")
            self.gone.append(self.stood.pop())
        elif word == "redo":
            if not self.gone:
                raise Refused("NothingToRedo")
            self.stood.append(self.gone.pop())
        else:
            text, day, away = getattr(self, word)(*args, *self.state())
            if not all_rests(text, day, away):
                raise Refused("Stuck", PAPERS)
            self.stood.append((" ".join([word, *map(str, args)]), text, day, away))
            self.gone = []

    def do(self, task, person, text, day, away):
        told = works(text)
        if not is_one(task, told.tasks):
            raise Refused("NoTask", task)
        self.here(person, told, away)
        if tuple(one for one, who in day) + (task,) not in told.beginnings:
            raise Refused("NotNow", task)
        need = plain.steps_of(told.trade, (task,))[0][0]
        if need > told.level(day):
            raise Refused("Short", need - told.level(day))
        self.kept(told, day + ((task, person),))
        return text, day + ((task, person),), away

    def here(self, person, told, away):
        if not is_one(person, told.mays):
            raise Refused("NoPerson", person)
        if person in away:
            raise Refused("Away", person)

    def kept(self, told, day):
        deal = tuple(sorted(day))
        pair = (people.wrong_tasks(told.mays, deal),
                tuple(number for number, duty in enumerate(told.duties) if people.is_broken(duty, deal)))
        if pair != ((), ()):
            raise Refused("NotKept", pair)

    def go(self, person, text, day, away):
        self.here(person, works(text), away)
        return text, day, tuple(sorted(away + (person,)))

    def come(self, person, text, day, away):
        if not is_one(person, works(text).mays):
            raise Refused("NoPerson", person)
        if person not in away:
            raise Refused("Here", person)
        return text, day, tuple(one for one in away if one != person)

    def give(self, number, text, day, away):
        if type(number) is not int or not 1 <= number <= 999:
            raise Refused("BadNumber", number)
        stock = works(text).stock + number
        if stock > 99999:
            raise Refused("Full", 99999)
        return re.sub("^stock .*", f"stock {stock}", text), day, away

    def teach(self, person, task, text, day, away):
        mays = works(text).mays
        if not is_one(person, mays):
            raise Refused("NoPerson", person)
        if type(task) is not str or not re.fullmatch(NAME, task):
            raise Refused("BadTask", task)
        if task in mays[person]:
            raise Refused("Known", task)
        if len(mays[person]) == 8:
            raise Refused("Full", 8)
        line = "may " + " ".join((person,) + mays[person])
        return "\n".join(f"{line} {task}" if one == line else one for one in text.split("\n")), day, away

    def bind(self, line, text, day, away):
        if type(line) is not str or "\n" in line or people.duty_of(line) is None or daily.first_wrong(text + "\n" + line):
            raise Refused("BadDuty", line)
        self.kept(works(text + "\n" + line), day)
        return text + "\n" + line, day, away

    def loose(self, number, text, day, away):
        duties = works(text).duties
        if type(number) is not int or not 0 <= number < len(duties):
            raise Refused("NoDuty", number)
        lines = text.split("\n")
        del lines[len(lines) - len(duties) + number]
        return "\n".join(lines), day, away


def read_line(line):
    """The words of a deed that a line tells, None for a line of no such form."""
    for word, form in FORMS.items():
        if told := re.fullmatch(form, line):
            args = [int(one) for one in told.groups()] if word in ("give", "loose") else list(told.groups())
            return (word, *args)
    return None


def read_journal(text):
    """The model of a journal, or the number of the line that is wrong."""
    if type(text) is not str:
        return 0
    lines = text.split("\n")
    if "bench" not in lines:
        return len(lines) + 1
    at = lines.index("bench")
    wrong = daily.first_wrong("\n".join(lines[:at])) if at else 1
    if wrong is not None:
        return wrong
    try:
        model = Model("\n".join(lines[:at]))
    except Refused:
        return at + 1
    for number in range(at + 1, len(lines)):
        deed = read_line(lines[number])
        try:
            if deed is None:
                return number + 1
            model.deed(*deed)
        except Refused:
            return number + 1
    return model


def some_works(rng, many, names=("a", "b", "c"), most_people=3, duties=2):
    """Texts of works whose day can be finished, often by more than one person."""
    found = []
    while len(found) < many:
        text = daily.any_works(rng, names, most_people, duties)
        if all_rests(text, (), ()):
            found.append(text)
    return found


def any_deed(rng, model):
    """A deed, or undo or redo, that may be done or refused."""
    text, day, away = model.state()
    told = works(text)
    tasks, mays = list(told.tasks), list(told.mays)
    word = rng.choice(("do", "do", "do", "go", "come", "give", "teach", "bind", "loose", "undo", "undo", "redo"))
    events = [event for event in told.events(day, away) if all_rests(text, day + (event,), away)]
    if word == "do" and events and rng.random() < 0.7:
        return ("do", *rng.choice(events))
    if word == "do":
        return ("do", rng.choice(tasks + ["x"]), rng.choice(mays + ["zoe"]))
    if word == "come" and away and rng.random() < 0.7:
        return (word, rng.choice(away))
    if word in ("go", "come"):
        return (word, rng.choice(mays + list(away) + ["zoe"]))
    if word == "give":
        return (word, rng.choice((0, 1, 2, 5, 999, 1000, True)))
    if word == "teach":
        return (word, rng.choice(mays + ["zoe"]), rng.choice(tasks + tasks + ["x", "X"]))
    if word == "bind":
        line = people.line_of(people.any_duty(rng, mays, (*tasks, "x")))
        return (word, rng.choice((line, line, line, line + " ", "may ann a", "")))
    if word == "loose":
        return (word, rng.choice((0, 0, 1, 2, -1)))
    return (word,)
