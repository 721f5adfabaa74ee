"""What works ask for, with stocks and needs that may be greater than texts of works can tell."""

from enoughhands.checks import is_row_of
from enoughhands.duties import is_broken
from enoughhands.going import next_tasks
from enoughhands.letting import level_of, need_of
from enoughhands.plans import Plan
from enoughhands.texts import rest_text
from enoughhands.trades import trade_table


class Job:
    """A plan, the step (need, net) of each task, a stock and a crew; it never changes."""

    def __init__(self, plan, table, stock, crew):
        self.plan = plan
        self.table = table
        self.stock = stock
        self.crew = crew


def job_of(works):
    """Return what the works ask for."""
    return Job(works.plan, trade_table(works.trade), works.stock, works.crew)


def done_by(day):
    """Return the tasks of the day, in sequence."""
    return tuple([task for task, person in day])


def day_of(run, deal):
    """Return the events of this run, by whom this deal tells."""
    people = {task: person for task, person in deal}
    return tuple([(task, people[task]) for task in run])


def given_by(day):
    """Return the events of the day, ascending: the deal so far."""
    return tuple(sorted(list(day)))


def level_behind(job, day):
    """Return the level behind the day."""
    return level_of(job.table, job.stock, done_by(day))


def fitting(job, day):
    """Return the list of the choices that fit the day, ascending."""
    return [choice for choice in job.plan.choices if all([task in choice for task in done_by(day)])]


def left_by(job, day, choice):
    """Return the Plan of what is left by this choice behind the day, None for nothing."""
    text = rest_text(job.plan.chosen(choice), done_by(day))
    return None if text is None else Plan(text)


def wrong_with(job, day, event):
    """Return the word for what makes this event none that comes behind the day, the word "" if it does."""
    if not is_row_of(event, 2) or event[0] not in job.plan or event[1] not in job.crew:
        return "form"
    if event[0] not in next_tasks(job.plan, done_by(day)):
        return "plan"
    if need_of(job.table, event[0]) > level_behind(job, day):
        return "stock"
    if event[0] not in job.crew.may(event[1]):
        return "may"
    return "duty" if breaks_duty(job.crew, given_by((*day, event))) else ""


def breaks_duty(crew, deal):
    """Tell whether some duty is broken by this deal."""
    return any([is_broken(duty, deal) for duty in crew.duties])


def wrong_in(job, value):
    """Return () if any value is a day, or else the first event with which it is none, and why."""
    if not isinstance(value, tuple):
        return (0, "form")
    for at, event in enumerate(value):
        word = wrong_with(job, value[:at], event)
        if word:
            return (at, word)
    return ()
