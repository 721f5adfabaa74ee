"""Plans: tasks one behind the other, beside one another, or one of several ways."""

from enoughhands.errors import BadChoice, BadDone, BadPlan
from enoughhands.going import is_beginning, next_tasks
from enoughhands.texts import MOST, bracketed, chosen_text, pieces, rest_text, ways_together


def fits(kind, parts):
    """Tell whether these parts may stand together in one plan."""
    tasks = [task for part in parts for task in part.tasks]
    if len(tasks) > MOST or len(set(tasks)) < len(tasks):
        return False
    return ways_together(kind, [len(part.choices) for part in parts]) <= MOST


def choices_of(kind, parts):
    """Return the ascending tuple of the choices of the plan of these parts."""
    if kind == "either":
        return tuple(sorted([choice for part in parts for choice in part.choices]))
    lots = [()]
    for part in parts:
        wider = [lot + choice for lot in lots for choice in part.choices]
        lots = wider
    return tuple(sorted([tuple(sorted(lot)) for lot in lots]))


class Plan:
    """A plan, by its text; it never changes."""

    def __init__(self, text):
        told = pieces(text)
        if told is None:
            raise BadPlan(text)
        kind, texts = told
        try:
            parts = tuple([Plan(part) for part in texts])
        except BadPlan:
            raise BadPlan(text) from None
        if not fits(kind, parts):
            raise BadPlan(text)
        self._set(text, kind, parts)
        self.turned = self
        if kind != "task":
            self._set_turned()

    def _set(self, text, kind, parts):
        """Set all attributes but turned."""
        self.text = text
        self.kind = kind
        self.parts = parts
        if kind == "task":
            self.tasks = (text,)
            self.choices = ((text,),)
            self.is_plain = True
        else:
            self.tasks = tuple([task for part in parts for task in part.tasks])
            self.choices = choices_of(kind, parts)
            self.is_plain = kind != "either" and all([part.is_plain for part in parts])

    def _set_turned(self):
        """Set turned, if it is another plan than this one."""
        parts = [part.turned for part in self.parts]
        if self.kind == "then":
            parts = parts[::-1]
        text = bracketed(self.kind, [part.text for part in parts])
        if text != self.text:
            # Created as a plan of one task, as the turned one of the turned one is
            # this very plan: neither could be created first from its text.
            other = Plan("a")
            other._set(text, self.kind, tuple(parts))
            other.turned = self
            self.turned = other

    def __eq__(self, other):
        return isinstance(other, Plan) and self.text == other.text

    def __len__(self):
        return len(self.tasks)

    def __contains__(self, value):
        return value in self.tasks

    def chosen(self, choice):
        """Return the Plan in which each either is the part that this choice takes."""
        if choice not in self.choices:
            raise BadChoice(choice)
        return Plan(chosen_text(self, choice))

    def next(self, done):
        """Return the lot of all tasks with which this beginning is one again."""
        if not is_beginning(self, done):
            raise BadDone(done)
        return next_tasks(self, done)

    def rest(self, done):
        """Return the Plan of what is left behind this beginning, None for nothing."""
        if not is_beginning(self, done):
            raise BadDone(done)
        text = rest_text(self, done)
        return None if text is None else Plan(text)
