"""What the document says of works and days, gone through plainly: all days that come behind one another.

Nothing here calls the package. Works are told as an object with what stands in their text.
"""

import functools
import re

from tests import people, plain
from tests.test_lots import Told

INTEGER = "(0|-?[1-9][0-9]*)"


def is_plan(text):
    """Whether a text is that of a plan, put together again from its parts."""
    def take(at):
        told = re.compile("[a-z]{1,8}").match(text, at)
        if not told:
            return None
        word, at = told[0], told.end()
        if word not in plain.KINDS:
            return ([word], 1, at)
        tasks, ways, many = [], [], 0
        while at < len(text) and text[at] == ("(" if not many else ","):
            part = take(at + 1)
            if part is None:
                return None
            tasks += part[0]
            ways.append(part[1])
            many, at = many + 1, part[2]
        if many < 2 or text[at:at + 1] != ")":
            return None
        together = 1
        for one in ways:
            together *= one
        return (tasks, sum(ways) if word == "either" else together, at + 1)

    got = take(0)
    return bool(got) and got[2] == len(text) and len(got[0]) == len(set(got[0])) <= 8 and got[1] <= 8


def first_wrong(text):
    """The number of the first wrong line of a text of works, None if there is none."""
    if type(text) is not str:
        return 0
    lines = text.split("\n")
    if not re.fullmatch("stock (0|[1-9][0-9]{0,4})", lines[0]):
        return 1
    if len(lines) < 2 or not lines[1].startswith("plan ") or not is_plan(lines[1][5:]):
        return 2
    tasks = plain.tree_tasks(plain.tree(lines[1][5:]))
    at = 2
    while at < len(lines) and (told := re.fullmatch(f"task ([a-z]+) {INTEGER} {INTEGER}", lines[at])):
        need, net = int(told[2]), int(told[3])
        if told[1] not in tasks or not 0 <= need <= 9999 or not 0 <= need + net <= 9999:
            break
        tasks.remove(told[1])
        at += 1
    if at == len(lines):
        return at + 1
    crew = people.read("\n".join(lines[at:]))
    return at + crew if isinstance(crew, int) else None


class Works:
    """What a text of works says."""

    def __init__(self, text):
        self.text = text
        lines = text.split("\n")
        self.stock, self.plan = int(lines[0][6:]), lines[1][5:]
        told = [line.split(" ") for line in lines if line.startswith("task ")]
        self.trade = tuple(sorted((task, int(need), int(net)) for word, task, need, net in told))
        self.crew = people.read("\n".join(lines[2 + len(told):]))
        self.mays, self.duties = self.crew
        self.tasks = plain.tree_tasks(plain.tree(self.plan))

    @functools.cached_property
    def beginnings(self):
        return set(plain.beginnings(self.plan))

    @functools.cached_property
    def runs(self):
        return set(plain.runs(self.plan))

    @functools.cached_property
    def choices(self):
        return sorted({plain.lot(run) for run in self.runs})

    def level(self, day):
        return self.stock + plain.total(plain.steps_of(self.trade, [task for task, person in day]))

    def wrong_with(self, day, event):
        """Why an event is none behind a day, () if it is one."""
        if type(event) is not tuple or len(event) != 2 or not any(plain.alike(event[0], one) for one in self.tasks) or (
                not any(plain.alike(event[1], one) for one in self.mays)):
            return "form"
        tasks = tuple(task for task, person in day) + (event[0],)
        if tasks not in self.beginnings:
            return "plan"
        if plain.steps_of(self.trade, tasks)[-1][0] > self.level(day):
            return "stock"
        if event[0] not in self.mays[event[1]]:
            return "may"
        deal = tuple(sorted(day + (event,)))
        return "duty" if any(people.is_broken(duty, deal) for duty in self.duties) else ""

    def wrong(self, value):
        if type(value) is not tuple:
            return (0, "form")
        for at, event in enumerate(value):
            if word := self.wrong_with(value[:at], event):
                return (at, word)
        return ()

    def is_finished(self, day):
        return tuple(task for task, person in day) in self.runs

    def events(self, day, away):
        """All events, ascending, with which the day is one again."""
        found = [(task, person) for task in sorted(self.tasks) for person in sorted(self.mays) if person not in away]
        return [event for event in found if not self.wrong_with(day, event)]

    def rests(self, day, away):
        """All rests, ascending."""
        if self.is_finished(day):
            return [()]
        return [(event,) + rest for event in self.events(day, away) for rest in self.rests(day + (event,), away)]

    def has_rests(self, day, away):
        if self.is_finished(day):
            return True
        return any(self.has_rests(day + (event,), away) for event in self.events(day, away))

    def fits(self, day):
        return [choice for choice in self.choices if all(task in choice for task, person in day)]

    def left(self, day, choice):
        """The text of what is left by a choice, None for nothing."""
        return plain.rest_text(plain.chosen_text(self.plan, choice), [task for task, person in day])

    def let_runs(self, day, choice, level):
        """The runs of what is left by a choice that are let at a level."""
        text = self.left(day, choice)
        if text is None:
            return [()]
        return [run for run in plain.runs(text) if plain.is_let(level, plain.steps_of(self.trade, run))]

    def need(self, day, choice):
        text = self.left(day, choice)
        runs = [()] if text is None else plain.runs(text)
        return min(plain.least(plain.steps_of(self.trade, run)) for run in runs)

    def deals(self, day, away, choice):
        return people.deals_of(self.crew, choice, tuple(sorted(day)), away)

    def is_open(self, day, away, choice):
        """Whether a choice is open by stock, and by hands."""
        return (bool(self.let_runs(day, choice, self.level(day))), bool(self.deals(day, away, choice)))

    def is_stuck(self, day, choice, level, lots):
        """Whether a value is closed lots of what is left, none of them a choice of it."""
        text = self.left(day, choice)
        return text is not None and Told(text, self.trade, level).is_stuck(lots)

    def is_hands(self, day, away, choice, most, hands):
        return people.is_hands(self.crew, choice, tuple(sorted(day)), away, most, hands)

    def is_paper(self, day, away, choice, paper):
        if type(paper) is not tuple or len(paper) != 3 or not plain.alike(paper[0], choice):
            return False
        if plain.alike(paper[1], "stock"):
            return self.is_stuck(day, choice, self.level(day), paper[2])
        return plain.alike(paper[1], "hands") and self.is_hands(day, away, choice, len(self.mays), paper[2])

    def are_papers(self, day, away, value):
        fits = self.fits(day)
        return type(value) is tuple and len(value) == len(fits) and all(
            self.is_paper(day, away, choice, paper) for choice, paper in zip(fits, value))

    def is_finish(self, day, away, value):
        """Whether a value is what finish may tell."""
        if type(value) is not tuple or len(value) != 2:
            return False
        if plain.alike(value[0], "rest"):
            rest = value[1]
            if type(rest) is not tuple or self.wrong(day + rest) or not self.is_finished(day + rest):
                return False
            return all(person not in away for task, person in rest)
        return plain.alike(value[0], "never") and self.are_papers(day, away, value[1])


def any_works(rng, names=("a", "b", "c", "d"), most_people=3, duties=3, kinds=plain.KINDS):
    """The text of any works."""
    tasks = names[:rng.randint(1, len(names))]
    plan = plain.any_text(rng, tasks, kinds)
    trade = plain.any_trade(rng, tasks, rng.choice([2, 4]))
    lowest = min(plain.least(plain.steps_of(trade, run)) for run in plain.runs(plan))
    stock = max(0, lowest + rng.choice([-1, 0, 0, 1, 3]))
    lines = [f"task {task} {need} {net}" for task, need, net in trade]
    rng.shuffle(lines)
    crew = people.any_crew(rng, tasks, most_people, duties)
    return "\n".join([f"stock {stock}", f"plan {plan}", *lines, crew])


def any_day(rng, works, away=()):
    """Any day of works."""
    day = ()
    for _ in range(rng.randint(0, 4)):
        events = works.events(day, away)
        if events:
            day += (rng.choice(events),)
    return day


def any_away(rng, works):
    """Nobody, somebody or everybody."""
    many = rng.choice((0, 0, 0, 1, 1, len(works.mays)))
    return tuple(sorted(rng.sample(list(works.mays), min(many, len(works.mays)))))


def cases(rng, many, names=("a", "b", "c", "d"), most_people=3, duties=3):
    """Works with a day and people who are away."""
    for _ in range(many):
        told = Works(any_works(rng, names, most_people, duties))
        day = any_day(rng, told)
        yield told, day, any_away(rng, told)
