"""Whether a day can be finished, and how, or else why not."""

from enoughhands.checks import is_said
from enoughhands.days import check_case
from enoughhands.jobs import fitting, job_of
from enoughhands.openings import are_papers, finish_for, is_open_by_hands, is_open_by_stock, is_rest


def finish(works, day, away):
    """Return any rest of the day, or else a paper for each choice that fits."""
    check_case(works, day, away)
    return finish_for(job_of(works), day, away)


def shows_finish(works, day, away, value):
    """Tell whether any value is what finish may return."""
    check_case(works, day, away)
    if is_said(value, "rest"):
        return is_rest(job_of(works), day, away, value[1])
    return is_said(value, "never") and are_papers(job_of(works), day, away, value[1])


def word_by(job, day, away, choice):
    """Return whether the choice is open, or else by what it is not."""
    by_stock = is_open_by_stock(job, day, choice)
    by_hands = is_open_by_hands(job, day, away, choice)
    if by_stock and by_hands:
        return "open"
    if not by_stock and not by_hands:
        return "both"
    return "hands" if by_stock else "stock"


def choices_left(works, day, away):
    """Return for each choice that fits whether it is open, or by what it is not."""
    check_case(works, day, away)
    job = job_of(works)
    return tuple([(choice, word_by(job, day, away, choice)) for choice in fitting(job, day)])
