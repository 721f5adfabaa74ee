"""Which duties change nothing for a day, and which events no rest has."""

from enoughhands.counting import book_of, rests_for
from enoughhands.dealing import able
from enoughhands.jobs import Job, job_of


def needless(works):
    """Return the numbers of the duties each of which can be left out, and the day has the same rests."""
    job = job_of(works)
    book = book_of(job)
    many = rests_for(job, book, (), ())
    found = []
    for number in range(len(works.crew.duties)):
        # Without a duty no rest is lost: so there are the same ones if there are as many.
        less = Job(job.plan, job.table, job.stock, works.crew.without_duty(number))
        if rests_for(less, book, (), ()) == many:
            found.append(number)
    return tuple(found)


def idle(works):
    """Return the ascending tuple of all events, of people who may do their tasks, that no rest has."""
    book = book_of(job_of(works))
    used = {}
    for choice in works.plan.choices:
        if book[choice][()]:
            for event in able(works.crew, choice, (), ()):
                used[event] = True
    events = [(task, person) for person in works.crew.people for task in works.crew.may(person)]
    return tuple(sorted([event for event in events if event[0] in works.plan and event not in used]))
