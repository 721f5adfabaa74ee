"""How much stock is wanting for a day, and how much room its tasks have."""

from enoughhands.checks import is_integer, is_row_of, is_said
from enoughhands.days import check_case
from enoughhands.errors import NoRests, NoTask
from enoughhands.jobs import Job, done_by, fitting, job_of, left_by, level_behind
from enoughhands.letting import level_of, need_of, safe_ways
from enoughhands.openings import are_papers, finish_for, is_open_by_hands, is_open_by_stock, is_rest, need_by
from enoughhands.openings import rest_or_paper
from enoughhands.paths import ways_of


def with_more(job, number):
    """Return the job with so much more stock."""
    return Job(job.plan, job.table, job.stock + number, job.crew)


def with_need(job, task, number):
    """Return the job in which the need of this task is so much greater."""
    need, gain = job.table.get(task, (0, 0))
    return Job(job.plan, {**job.table, task: (need + number, gain)}, job.stock, job.crew)


def handed(job, day, away):
    """Return the list of the choices that fit and are open by hands."""
    return [choice for choice in fitting(job, day) if is_open_by_hands(job, day, away, choice)]


def more_stock(works, day, away):
    """Return how much more stock the day needs to have rests, with papers, or why none is enough."""
    check_case(works, day, away)
    job = job_of(works)
    needs = [need_by(job, day, choice) for choice in handed(job, day, away)]
    if not needs:
        # Without any stock that is wanting, all that bars is told by hands.
        most = max([need_by(job, day, choice) for choice in fitting(job, day)])
        return finish_for(with_more(job, most), day, away)
    number = max(0, min(needs) - level_behind(job, day))
    papers = finish_for(with_more(job, number - 1), day, away)[1] if number else ()
    return ("more", number, finish_for(with_more(job, number), day, away)[1], papers)


def shows_more_stock(works, day, away, value):
    """Tell whether any value is what more_stock may return."""
    check_case(works, day, away)
    job = job_of(works)
    if is_said(value, "never"):
        return are_papers(job, day, away, value[1]) and all([paper[1] == "hands" for paper in value[1]])
    if not is_row_of(value, 4) or value[0] != "more" or not is_integer(value[1]) or value[1] < 0:
        return False
    if not is_rest(with_more(job, value[1]), day, away, value[2]):
        return False
    if value[1] == 0:
        return value[3] == ()
    return are_papers(with_more(job, value[1] - 1), day, away, value[3])


def check_room(works, day, away, task):
    """Raise the errors for what need_room is handed."""
    check_case(works, day, away)
    if task not in works.plan or task in done_by(day):
        raise NoTask(task)
    told = finish_for(job_of(works), day, away)
    if told[0] == "never":
        raise NoRests(told[1])


def rooms_by(job, day, choice, task):
    """Return the list of how much greater the need of this task can be, in runs of what is left by this choice."""
    level = level_behind(job, day)
    safe = safe_ways(ways_of(left_by(job, day, choice)), job.table, level)
    need = need_of(job.table, task)
    return [level_of(job.table, level, lot) - need for lot in safe if task in safe[lot]]


def free_rest(job, day, away, choices, task):
    """Return ("free", events) with any rest by one of these choices that has not this task, None for none."""
    for choice in choices:
        if task not in choice and is_open_by_stock(job, day, choice):
            return ("free", rest_or_paper(job, day, away, choice)[1])
    return None


def need_room(works, day, away, task):
    """Return how much greater the need of this task can be for the day to have rests, with papers."""
    check_room(works, day, away, task)
    job = job_of(works)
    choices = handed(job, day, away)
    free = free_rest(job, day, away, choices, task)
    if free is not None:
        return free
    rooms = [room for choice in choices for room in rooms_by(job, day, choice, task)]
    number = max(rooms)
    events = finish_for(with_need(job, task, number), day, away)[1]
    return ("room", number, events, finish_for(with_need(job, task, number + 1), day, away)[1])


def shows_need_room(works, day, away, task, value):
    """Tell whether any value is what need_room may return."""
    check_room(works, day, away, task)
    job = job_of(works)
    if is_said(value, "free"):
        return is_rest(job, day, away, value[1]) and task not in done_by(value[1])
    if not is_row_of(value, 4) or value[0] != "room" or not is_integer(value[1]):
        return False
    if not is_rest(with_need(job, task, value[1]), day, away, value[2]):
        return False
    return are_papers(with_need(job, task, value[1] + 1), day, away, value[3])
