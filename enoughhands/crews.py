"""Crews: people, the tasks that they may do, and duties that part these."""

from enoughhands.checks import is_integer, is_name
from enoughhands.errors import BadCrew, BadDuty, BadTask, Full, Held, Known, Last, NoDuty, NoPerson, NotKnown
from enoughhands.lines import MOST_DUTIES, MOST_FEW, MOST_PEOPLE, MOST_TASKS, are_few, can_be_held
from enoughhands.lines import duty_line, is_duty, may_line, read_duty, read_may


class Crew:
    """A crew, by its text; it never changes."""

    def __init__(self, text):
        if not isinstance(text, str):
            raise BadCrew(0)
        lines = text.split("\n")
        # mays: for each person the tasks as they stand in the line.
        self.mays = {}
        while len(self.mays) < len(lines):
            told = read_may(lines[len(self.mays)])
            if told is None or told[0] in self.mays or len(self.mays) >= MOST_PEOPLE:
                break
            self.mays[told[0]] = told[1]
        self.text = text
        self.people = tuple(list(self.mays))
        self.duties = ()
        for at in range(len(self.people), len(lines)):
            duty = read_duty(lines[at], self.people)
            if not self.people or duty is None or not can_be_held(duty, self.duties):
                raise BadCrew(at + 1)
            self.duties = (*self.duties, duty)

    def __eq__(self, other):
        return isinstance(other, Crew) and self.text == other.text

    def __len__(self):
        return len(self.people)

    def __contains__(self, value):
        return value in self.people

    def may(self, person):
        """Return the lot of the tasks that this person may do."""
        if person not in self.people:
            raise NoPerson(person)
        return tuple(sorted(list(self.mays[person])))

    def with_may(self, person, task):
        """Return the Crew in which this person may do this task, too."""
        known = self.may(person)
        if not is_name(task):
            raise BadTask(task)
        if task in known:
            raise Known(task)
        if len(known) >= MOST_TASKS:
            raise Full(MOST_TASKS)
        return self._with_tasks(person, self.mays[person] + (task,))

    def without_may(self, person, task):
        """Return the Crew in which this person may not do this task."""
        if task not in self.may(person):
            raise NotKnown(task)
        if len(self.mays[person]) == 1:
            raise Last(task)
        return self._with_tasks(person, [one for one in self.mays[person] if one != task])

    def _with_tasks(self, person, tasks):
        """Return the Crew in which this person may do these tasks."""
        lines = self.text.split("\n")
        lines[self.people.index(person)] = may_line(person, tasks)
        return Crew("\n".join(lines))

    def with_duty(self, duty):
        """Return the Crew with this duty, too."""
        if not is_duty(duty, self.people):
            raise BadDuty(duty)
        if duty in self.duties:
            raise Held(duty)
        if len(self.duties) >= MOST_DUTIES:
            raise Full(MOST_DUTIES)
        if duty[0] == "few" and are_few(self.duties) >= MOST_FEW:
            raise Full(MOST_FEW)
        return Crew(self.text + "\n" + duty_line(duty))

    def without_duty(self, number):
        """Return the Crew without the duty with this number."""
        if not is_integer(number) or not 0 <= number < len(self.duties):
            raise NoDuty(number)
        lines = self.text.split("\n")
        at = len(self.people) + number
        return Crew("\n".join(lines[:at] + lines[at + 1:]))
