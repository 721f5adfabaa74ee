"""Journals: the text of a bench, and the bench of a text."""

from enoughhands.benches import Bench
from enoughhands.errors import BadJournal, BadWorks, HandError, Stuck
from enoughhands.lines import read_integer
from enoughhands.works import Works

MARK = "bench"
# How many words a deed of each kind has, but for bind, whose line may be anything.
SIZES = {"do": 3, "go": 2, "come": 2, "give": 2, "teach": 3, "loose": 2}


def journal(bench):
    """Return the journal of the bench."""
    return "\n".join([bench.first.text, MARK] + list(bench.lines()))


def read_deed(line):
    """Return the words of the deed that this line tells, numbers as such, None for a line of no such form."""
    word, blank, rest = line.partition(" ")
    if word == "bind":
        return (word, rest) if blank else None
    words = line.split(" ")
    if len(words) != SIZES.get(word, 0) or "" in words:
        return None
    if word not in ("give", "loose"):
        return tuple(words)
    number = read_integer(words[1])
    return None if number is None else (word, number)


def do_deed(bench, deed):
    """Do at the bench what these words tell."""
    word = deed[0]
    if word == "do":
        bench.do(deed[1], deed[2])
    elif word == "go":
        bench.go(deed[1])
    elif word == "come":
        bench.come(deed[1])
    elif word == "give":
        bench.give(deed[1])
    elif word == "teach":
        bench.teach(deed[1], deed[2])
    elif word == "bind":
        bench.bind(deed[1])
    else:
        bench.loose(deed[1])


def is_done(bench, line):
    """Tell whether this line tells a deed; if so, it is done at the bench, unless it is refused."""
    deed = read_deed(line)
    if deed is None:
        return False
    try:
        do_deed(bench, deed)
    except HandError:
        return False
    return True


def first_bench(lines, ahead):
    """Return the bench of the works of the first so many lines."""
    try:
        return Bench(Works("\n".join(lines[:ahead])))
    except BadWorks as told:
        raise BadJournal(told.value) from None
    except Stuck:
        raise BadJournal(ahead + 1) from None


def read_journal(text):
    """Return a bench at which all was done that this journal tells."""
    if not isinstance(text, str):
        raise BadJournal(0)
    lines = text.split("\n")
    if MARK not in lines:
        raise BadJournal(len(lines) + 1)
    ahead = lines.index(MARK)
    bench = first_bench(lines, ahead)
    for at in range(ahead + 1, len(lines)):
        if not is_done(bench, lines[at]):
            raise BadJournal(at + 1)
    return bench
