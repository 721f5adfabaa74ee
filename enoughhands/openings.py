"""By which choices a day can be finished, by stock and by hands, and papers why not.

All is told of a job (jobs.py), a day of it, and people who are away.
"""

from enoughhands.checks import is_row_of
from enoughhands.dealing import dealt_to
from enoughhands.dealranks import deals_for
from enoughhands.going import is_over
from enoughhands.hands import are_hands
from enoughhands.jobs import day_of, done_by, fitting, given_by, left_by, level_behind, wrong_in
from enoughhands.letting import lows_of
from enoughhands.paths import ways_of
from enoughhands.stuck import are_stuck, can_at


def need_by(job, day, choice):
    """Return the least level at which what is left by this choice can be done."""
    rest = left_by(job, day, choice)
    return 0 if rest is None else lows_of(ways_of(rest), job.table)[()]


def is_open_by_stock(job, day, choice):
    """Tell whether what is left by this choice can be done at the level behind the day."""
    return need_by(job, day, choice) <= level_behind(job, day)


def is_open_by_hands(job, day, away, choice):
    """Tell whether the tasks of this choice can be dealt, as the day has begun to."""
    return deals_for(job.crew, choice, given_by(day), away) > 0


def has_rests(job, day, away):
    """Tell whether the day has rests."""
    for choice in fitting(job, day):
        if is_open_by_stock(job, day, choice) and is_open_by_hands(job, day, away, choice):
            return True
    return False


def run_by(job, day, choice):
    """Return any run of what is left by this choice, or closed lots of it without a choice."""
    rest = left_by(job, day, choice)
    return ("run", ()) if rest is None else can_at(rest, job.table, level_behind(job, day))


def rest_or_paper(job, day, away, choice):
    """Return ("rest", events) with any rest by this choice, or else a paper why there is none."""
    done = run_by(job, day, choice)
    if done[0] == "stuck":
        return (choice, "stock", done[1])
    taken = dealt_to(job.crew, choice, given_by(day), away, len(job.crew))
    if taken[0] == "none":
        return (choice, "hands", taken[1])
    return ("rest", day_of(done[1], taken[1]))


def finish_for(job, day, away):
    """Return any rest of the day, or else a paper for each choice that fits."""
    papers = []
    for choice in fitting(job, day):
        told = rest_or_paper(job, day, away, choice)
        if told[0] == "rest":
            return told
        papers.append(told)
    return ("never", tuple(papers))


def is_rest(job, day, away, value):
    """Tell whether any value is a rest of the day."""
    if not isinstance(value, tuple) or wrong_in(job, day + value):
        return False
    return is_over(job.plan, done_by(day + value)) and all([person not in away for task, person in value])


def is_paper(job, day, away, choice, value):
    """Tell whether any value is a paper why there is no rest by this choice."""
    if not is_row_of(value, 3) or value[0] != choice:
        return False
    if value[1] == "hands":
        return are_hands(job.crew, choice, given_by(day), away, len(job.crew), value[2])
    rest = left_by(job, day, choice)
    if value[1] != "stock" or rest is None:
        return False
    return are_stuck(rest, job.table, level_behind(job, day), value[2])


def are_papers(job, day, away, value):
    """Tell whether any value is papers of a day that has no rests."""
    fits = fitting(job, day)
    if not is_row_of(value, len(fits)):
        return False
    return all([is_paper(job, day, away, choice, paper) for choice, paper in zip(fits, value)])
