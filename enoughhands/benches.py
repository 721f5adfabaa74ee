"""Benches, at which a day goes on and never gets stuck."""

from enoughhands.counting import book_of, rests_for
from enoughhands.deeds import away_with, away_without, check_rests, day_with, works_bound, works_given, works_loosed
from enoughhands.deeds import works_taught
from enoughhands.errors import NothingToRedo, NothingToUndo, NoTrial
from enoughhands.fronts import papers_of, points_in
from enoughhands.going import is_over
from enoughhands.jobs import done_by, job_of, level_behind
from enoughhands.restranks import open_events
from enoughhands.trials import Trial


class Bench:
    """A day that goes on by deeds, of which each one leaves it rests."""

    def __init__(self, works):
        check_rests(works, (), ())
        self.first = works
        # For each deed that stands its line, and the works, the day and who is away behind it.
        self.deeds = ()
        # What was taken back and can be done again, likewise, the next one last.
        self.undone = ()
        # The innermost block, None outside of all.
        self.block = None
        self._stand()

    def _stand(self):
        """Set what the last deed that stands has left."""
        works, day, away = self.deeds[-1][1:] if self.deeds else (self.first, (), ())
        self.works = works
        self.day = day
        self.away = away
        self.level = level_behind(job_of(works), day)
        self.done = len(self.deeds)
        self.is_finished = is_over(works.plan, done_by(day))

    def _add(self, words, works, day, away):
        """Add a deed, told by the words of its line, which leaves this."""
        line = " ".join([str(word) for word in words])
        self.deeds = (*self.deeds, (line, works, day, away))
        self.undone = ()
        self._stand()

    def __eq__(self, other):
        return isinstance(other, Bench) and self.first == other.first and self.lines() == other.lines()

    def __len__(self):
        return len(self.day)

    def __contains__(self, value):
        return value in self.day

    def lines(self):
        """Return the lines of all deeds that stand, in sequence."""
        return tuple([deed[0] for deed in self.deeds])

    def events(self):
        """Return all events with which the day goes on and has rests."""
        return open_events(self.works, self.day, self.away)

    def front(self):
        """Return the points of the front."""
        return points_in(papers_of(job_of(self.works), self.day, self.away))

    def rests(self):
        """Return how many rests the day has."""
        job = job_of(self.works)
        return rests_for(job, book_of(job), self.day, self.away)

    def do(self, task, person):
        """Let this person do this task."""
        day = day_with(self.works, self.day, self.away, task, person)
        self._add(("do", task, person), self.works, day, self.away)

    def go(self, person):
        """Let this person go away."""
        self._add(("go", person), self.works, self.day, away_with(self.works, self.day, self.away, person))

    def come(self, person):
        """Let this person come back."""
        self._add(("come", person), self.works, self.day, away_without(self.works, self.away, person))

    def give(self, number):
        """Give so much to the stock."""
        self._add(("give", number), works_given(self.works, number), self.day, self.away)

    def teach(self, person, task):
        """Let this person learn this task."""
        self._add(("teach", person, task), works_taught(self.works, person, task), self.day, self.away)

    def bind(self, line):
        """Bind the duty of this line."""
        self._add(("bind", line), works_bound(self.works, self.day, self.away, line), self.day, self.away)

    def loose(self, number):
        """Loosen the duty with this number."""
        self._add(("loose", number), works_loosed(self.works, number), self.day, self.away)

    def undo(self):
        """Take the last deed back."""
        if not self.deeds:
            raise NothingToUndo(None)
        self.undone = (*self.undone, self.deeds[-1])
        self.deeds = self.deeds[:-1]
        self._stand()

    def redo(self):
        """Do again what was taken back last."""
        if not self.undone:
            raise NothingToRedo(None)
        self.deeds = (*self.deeds, self.undone[-1])
        self.undone = self.undone[:-1]
        self._stand()

    def trial(self):
        """Return a block behind which all is as it was when it was entered, unless it is kept."""
        return Trial(self)

    def keep(self):
        """Let all that is done in the innermost block stand."""
        if self.block is None:
            raise NoTrial(None)
        block = self.block
        block.kept = True

    def tried(self, look, *, keep=False):
        """Return what look returns of this bench, within a block that is kept if keep is True."""
        with self.trial() as bench:
            told = look(bench)
            if keep is True:
                bench.keep()
        return told

    def copy(self):
        """Return an independent bench, alike in all things but that it is outside of all blocks."""
        other = Bench(self.first)
        other.deeds = self.deeds
        other.undone = self.undone
        other._stand()
        return other
