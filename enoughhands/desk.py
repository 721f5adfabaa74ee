"""A desk: a bench to which lines are said."""

from enoughhands.errors import BadSaying
from enoughhands.jobs import done_by
from enoughhands.journals import do_deed, read_deed, read_journal
from enoughhands.texts import rest_text


def paired(rows):
    """Return these pairs, each one told as one word, parted by blanks."""
    return " ".join([str(one) + ":" + str(other) for one, other in rows])


def left_at(bench):
    """Return the text of what is left behind the day."""
    text = rest_text(bench.works.plan, done_by(bench.day))
    return "done" if text is None else text


def answer(bench, line):
    """Return what the bench tells to this line, None if it is no question."""
    if line == "events":
        return paired(bench.events())
    if line == "front":
        return paired(bench.front())
    if line == "level":
        return str(bench.level)
    if line == "rests":
        return str(bench.rests())
    if line == "left":
        return left_at(bench)
    if line == "away":
        return " ".join(bench.away)
    return None


class Desk:
    """A desk, by the journal of its bench."""

    def __init__(self, text):
        self.bench = read_journal(text)

    def say(self, line):
        """Return the answer to this line."""
        if not isinstance(line, str) or "\n" in line:
            raise BadSaying(line)
        told = answer(self.bench, line)
        if told is not None:
            return told
        if line == "undo":
            self.bench.undo()
        elif line == "redo":
            self.bench.redo()
        else:
            deed = read_deed(line)
            if deed is None:
                raise BadSaying(line)
            do_deed(self.bench, deed)
        return "ok"
