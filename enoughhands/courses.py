"""How a day goes on where somebody else chooses: all standings that come, and from which there are trees.

A step tells how a standing goes on, as (word, what, later): ("done", None, ()) if it is finished;
("ask", either, standings) if this either is asked, with the standing behind each of its parts;
("do", events, standings) otherwise, with the standing behind each of these events.
"""

from enoughhands.chances import asked_by, check_foreign, eithers, plan_by
from enoughhands.errors import BadAway, TooMany
from enoughhands.going import is_over, next_tasks
from enoughhands.jobs import breaks_duty, done_by, given_by, job_of
from enoughhands.letting import level_of, need_of
from enoughhands.takings import are_away

MOST_STANDINGS = 2000


def events_on(job, away, deal, now):
    """Return the list of all events, ascending, with which a deal goes on, of the tasks that can come now."""
    level = level_of(job.table, job.stock, done_by(deal))
    let = [task for task in now if need_of(job.table, task) <= level]
    people = [person for person in sorted(list(job.crew.people)) if person not in away]
    events = [(task, person) for task in let for person in people if task in job.crew.may(person)]
    return [event for event in events if not breaks_duty(job.crew, given_by((*deal, event)))]


def told_step(every, standing, either):
    """Return the step of a standing at which this either is asked."""
    deal, told = standing
    answers = [(either, part) for part in range(len(every[either].parts))]
    return ("ask", either, tuple([(deal, tuple(sorted([*told, answer]))) for answer in answers]))


def step_of(job, foreign, away, plan, standing):
    """Return the step of a standing; plan: that by what is told."""
    deal, told = standing
    every = eithers(job.plan)
    now = next_tasks(plan, done_by(deal))
    asked = asked_by(every, foreign, told, now)
    if asked:
        return told_step(every, standing, asked[0])
    if is_over(plan, done_by(deal)):
        return ("done", None, ())
    events = events_on(job, away, deal, now)
    return ("do", tuple(events), tuple([(given_by((*deal, event)), told) for event in events]))


def all_steps(works, foreign, away):
    """Return the step of each standing that comes, those with less done and told first; the errors ahead."""
    check_foreign(works.plan, foreign)
    if not are_away(works.crew, away):
        raise BadAway(away)
    job = job_of(works)
    plans = {}
    steps = {}
    wave = [((), ())]
    while wave:
        later = {}
        for standing in wave:
            told = standing[1]
            if told not in plans:
                plans[told] = plan_by(works.plan, told)
            steps[standing] = step_of(job, foreign, away, plans[told], standing)
            for one in steps[standing][2]:
                later[one] = True
        wave = list(later)
        if len(steps) + len(wave) > MOST_STANDINGS:
            raise TooMany(MOST_STANDINGS)
    return steps


def sure_ones(steps):
    """Return a table of all standings from which there is a tree."""
    sure = {}
    for standing in reversed(list(steps)):
        word, _, later = steps[standing]
        good = [one in sure for one in later]
        if word == "done" or any(good) and (word == "do" or all(good)):
            sure[standing] = True
    return sure
