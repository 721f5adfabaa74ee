"""How many people can go away, whoever they are, and the day can still be finished."""

from enoughhands.checks import is_integer, is_row_of, is_said
from enoughhands.days import check_case
from enoughhands.errors import BadNumber
from enoughhands.jobs import job_of
from enoughhands.lines import MOST_PEOPLE
from enoughhands.openings import are_papers, finish_for, has_rests, is_rest
from enoughhands.restranks import people_here
from enoughhands.takings import are_away
from enoughhands.weaving import lots_within


def lots_to_go(works, away, many):
    """Return the ascending list of all lots of so many people who are here, or of all of these."""
    here = people_here(works, away)
    number = min(many, len(here))
    return sorted([lot for lot in lots_within(here) if len(lot) == number])


def gone(away, lot):
    """Return who is away when these people go, too."""
    return tuple(sorted([*away, *lot]))


def check_many(works, day, away, many):
    """Raise the errors for what holds is handed."""
    check_case(works, day, away)
    if not is_integer(many) or not 0 <= many <= MOST_PEOPLE:
        raise BadNumber(many)


def holds(works, day, away, many):
    """Return rests for whichever so many people go away, or else people without whom there is none, with papers."""
    check_many(works, day, away, many)
    job = job_of(works)
    rows = []
    for lot in lots_to_go(works, away, many):
        told = finish_for(job, day, gone(away, lot))
        if told[0] == "never":
            return ("falls", lot, told[1])
        rows.append((lot, told[1]))
    return ("holds", tuple(rows))


def is_row_for(job, day, away, lot, value):
    """Tell whether any value is this lot with a rest without these people."""
    return is_row_of(value, 2) and value[0] == lot and is_rest(job, day, gone(away, lot), value[1])


def shows_holds(works, day, away, many, value):
    """Tell whether any value is what holds may return."""
    check_many(works, day, away, many)
    job = job_of(works)
    if is_said(value, "holds"):
        lots = lots_to_go(works, away, many)
        if not is_row_of(value[1], len(lots)):
            return False
        return all([is_row_for(job, day, away, lot, row) for lot, row in zip(lots, value[1])])
    if not is_row_of(value, 3) or value[0] != "falls" or not are_away(works.crew, value[1]):
        return False
    if len(value[1]) > many or any([person in away for person in value[1]]):
        return False
    return are_papers(job, day, gone(away, value[1]), value[2])


def losses(works, day, away):
    """Return the greatest number of people for which holds tells "holds", None if there is none."""
    check_case(works, day, away)
    job = job_of(works)
    number = None
    for many in range(len(people_here(works, away)) + 1):
        if not all([has_rests(job, day, gone(away, lot)) for lot in lots_to_go(works, away, many)]):
            return number
        number = many
    return number
