"""The front: of all choices the least stock against the fewest people."""

from enoughhands.checks import is_integer, is_row_of
from enoughhands.days import check_case
from enoughhands.dealing import fewest_for, is_fewest
from enoughhands.hands import are_hands, check_most
from enoughhands.jobs import fitting, given_by, job_of, left_by, level_behind
from enoughhands.letting import lows_of
from enoughhands.paths import ways_of
from enoughhands.stuck import are_stuck, can_at, is_let_run


def stock_paper(job, day, choice):
    """Return (need, run, lots) of a choice: the least level for what is left, and papers for it."""
    rest = left_by(job, day, choice)
    if rest is None:
        return (0, (), ())
    need = lows_of(ways_of(rest), job.table)[()]
    lots = can_at(rest, job.table, need - 1)[1] if need else ()
    return (need, can_at(rest, job.table, need)[1], lots)


def hands_paper(job, day, away, choice):
    """Return (people, deal, hands) of a choice: how few people there can be, and papers for it."""
    told = fewest_for(job.crew, choice, given_by(day), away)
    return (None, (), told[1]) if told[0] == "none" else told[1:]


def paper_by(job, day, away, choice):
    """Return the paper of a choice: its need and its people, with what shows both."""
    return (choice,) + stock_paper(job, day, choice) + hands_paper(job, day, away, choice)


def points_in(papers):
    """Return the ascending tuple of the best points of these papers."""
    points = sorted({(paper[1], paper[4]) for paper in papers if paper[4] is not None})
    return tuple([one for one in points if not any([is_better(other, one) for other in points])])


def is_better(one, other):
    """Tell whether one is another point than other, and neither of its numbers is greater."""
    return one != other and one[0] <= other[0] and one[1] <= other[1]


def papers_of(job, day, away):
    """Return the papers of all choices that fit."""
    return tuple([paper_by(job, day, away, choice) for choice in fitting(job, day)])


def front(works, day, away):
    """Return the points of the front, and papers for all choices that fit."""
    check_case(works, day, away)
    papers = papers_of(job_of(works), day, away)
    return (points_in(papers), papers)


def is_stock_paper(job, day, choice, need, run, lots):
    """Tell whether this is what stock_paper may tell."""
    rest = left_by(job, day, choice)
    if not is_integer(need):
        return False
    if rest is None:
        return need == 0 and run == () and lots == ()
    if not is_let_run(rest, job.table, need, run):
        return False
    return are_stuck(rest, job.table, need - 1, lots) if need else lots == ()


def is_hands_paper(job, day, away, choice, people, deal, hands):
    """Tell whether this is what hands_paper may tell."""
    given = given_by(day)
    if people is None:
        return deal == () and are_hands(job.crew, choice, given, away, len(job.crew), hands)
    return is_fewest(job.crew, choice, given, away, people, deal, hands)


def is_front_paper(job, day, away, choice, value):
    """Tell whether any value is a paper of this choice."""
    if not is_row_of(value, 7) or value[0] != choice:
        return False
    if not is_stock_paper(job, day, choice, value[1], value[2], value[3]):
        return False
    return is_hands_paper(job, day, away, choice, value[4], value[5], value[6])


def shows_front(works, day, away, value):
    """Tell whether any value is what front may return."""
    check_case(works, day, away)
    job = job_of(works)
    fits = fitting(job, day)
    if not is_row_of(value, 2) or not is_row_of(value[1], len(fits)):
        return False
    if not all([is_front_paper(job, day, away, choice, paper) for choice, paper in zip(fits, value[1])]):
        return False
    return are_points(value[0]) and value[0] == points_in(value[1])


def are_points(value):
    """Tell whether any value is a tuple of two integers each."""
    if not isinstance(value, tuple) or not all([is_row_of(point, 2) for point in value]):
        return False
    return all([is_integer(number) for point in value for number in point])


def short(works, day, away, most):
    """Return by how much the level has to be greater for the day to have rests with so many people."""
    check_case(works, day, away)
    check_most(most)
    job = job_of(works)
    papers = papers_of(job, day, away)
    needs = [paper[1] for paper in papers if paper[4] is not None and paper[4] <= most]
    return max(0, min(needs) - level_behind(job, day)) if needs else None
