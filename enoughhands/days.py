"""Days: what was done so far, and by whom."""

from enoughhands.errors import BadAway, BadDay
from enoughhands.going import is_over
from enoughhands.jobs import done_by, job_of, level_behind, wrong_in
from enoughhands.plans import Plan
from enoughhands.takings import are_away
from enoughhands.texts import rest_text


def wrong(works, value):
    """Return () if any value is a day, or else the first event with which it is none, and why."""
    return wrong_in(job_of(works), value)


def check_day(works, day):
    """Raise the error for what is no day."""
    if wrong(works, day):
        raise BadDay(day)


def check_case(works, day, away):
    """Raise the error for what is no day, then for what are no people who are away."""
    check_day(works, day)
    if not are_away(works.crew, away):
        raise BadAway(away)


def level(works, day):
    """Return the level behind the day."""
    check_day(works, day)
    return level_behind(job_of(works), day)


def left(works, day):
    """Return the Plan of what is left behind the day, None for nothing."""
    check_day(works, day)
    text = rest_text(works.plan, done_by(day))
    return None if text is None else Plan(text)


def is_finished(works, day):
    """Tell whether the day is finished."""
    check_day(works, day)
    return is_over(works.plan, done_by(day))
