"""How many rests a day has, and with which events it goes on.

A book tells for each choice in how many sequences all that is left by it is let behind
each lot: what can come behind a day hangs on the lot of its tasks alone.
"""

from enoughhands.dealranks import deals_for, people_for
from enoughhands.going import next_tasks
from enoughhands.jobs import done_by, fitting, given_by, wrong_with
from enoughhands.letting import lets_behind
from enoughhands.paths import ways_of


def book_of(job):
    """Return the book of the job."""
    book = {}
    for choice in job.plan.choices:
        book[choice] = lets_behind(ways_of(job.plan.chosen(choice)), job.table, job.stock)
    return book


def rests_for(job, book, day, away):
    """Return how many rests the day has."""
    lot = tuple(sorted(list(done_by(day))))
    number = 0
    for choice in fitting(job, day):
        if book[choice][lot]:
            number += book[choice][lot] * deals_for(job.crew, choice, given_by(day), away)
    return number


def events_behind(job, day, away):
    """Return the list of all events, ascending, of people who are not away, with which the day is one again."""
    events = []
    for task in next_tasks(job.plan, done_by(day)):
        events.extend([(task, person) for person in people_for(job.crew, (), away, task)])
    return [event for event in events if not wrong_with(job, day, event)]
