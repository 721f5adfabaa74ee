"""What each deed at a bench makes of works, a day and people who are away, or why it is refused."""

from enoughhands.checks import is_integer
from enoughhands.crews import Crew
from enoughhands.duties import broken_by
from enoughhands.errors import Away, BadDuty, BadNumber, Full, Here, NoPerson, NotKept, NotNow, NoTask, Short, Stuck
from enoughhands.going import next_tasks
from enoughhands.jobs import done_by, given_by, job_of, level_behind
from enoughhands.letting import need_of
from enoughhands.lines import can_be_held, read_duty
from enoughhands.openings import finish_for
from enoughhands.trades import MOST_STOCK
from enoughhands.works import Works

MOST_GIVEN = 999


def check_rests(works, day, away):
    """Raise the error, with papers, for a day that has no rests."""
    told = finish_for(job_of(works), day, away)
    if told[0] == "never":
        raise Stuck(told[1])


def check_here(works, away, person):
    """Raise the errors for who is nobody of the crew, then for who is away."""
    if person not in works.crew:
        raise NoPerson(person)
    if person in away:
        raise Away(person)


def check_kept(crew, day):
    """Raise the error for a day whose events the crew does not keep."""
    pair = broken_by(crew, given_by(day))
    if pair != ((), ()):
        raise NotKept(pair)


def check_event(works, day, away, task, person):
    """Raise the errors for what is no event that can come behind the day, but for duties."""
    if task not in works.plan:
        raise NoTask(task)
    check_here(works, away, person)
    if task not in next_tasks(works.plan, done_by(day)):
        raise NotNow(task)
    job = job_of(works)
    short = need_of(job.table, task) - level_behind(job, day)
    if short > 0:
        raise Short(short)


def day_with(works, day, away, task, person):
    """Return the day with this event, too."""
    check_event(works, day, away, task, person)
    longer = (*day, (task, person))
    check_kept(works.crew, longer)
    check_rests(works, longer, away)
    return longer


def away_with(works, day, away, person):
    """Return who is away when this person goes."""
    check_here(works, away, person)
    more = tuple(sorted([*away, person]))
    check_rests(works, day, more)
    return more


def away_without(works, away, person):
    """Return who is away when this person comes."""
    if person not in works.crew:
        raise NoPerson(person)
    if person not in away:
        raise Here(person)
    return tuple([one for one in away if one != person])


def works_given(works, number):
    """Return the Works with so much more stock."""
    if not is_integer(number) or not 1 <= number <= MOST_GIVEN:
        raise BadNumber(number)
    if works.stock + number > MOST_STOCK:
        raise Full(MOST_STOCK)
    return works.with_stock(works.stock + number)


def works_of(works, crew):
    """Return the Works with this crew."""
    lines = works.text.split("\n")[:2 + len(works.trade)]
    return Works("\n".join(lines + [crew.text]))


def works_taught(works, person, task):
    """Return the Works in which this person may do this task, too."""
    return works_of(works, works.crew.with_may(person, task))


def works_bound(works, day, away, line):
    """Return the Works with the duty of this line behind the others."""
    crew = works.crew
    duty = read_duty(line, crew.people) if isinstance(line, str) else None
    if duty is None or not can_be_held(duty, crew.duties):
        raise BadDuty(line)
    bound = Crew(crew.text + "\n" + line)
    check_kept(bound, day)
    more = works_of(works, bound)
    check_rests(more, day, away)
    return more


def works_loosed(works, number):
    """Return the Works without the duty with this number."""
    return works_of(works, works.crew.without_duty(number))
