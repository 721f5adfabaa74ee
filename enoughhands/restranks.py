"""Rests one by one, which events leave rests, and who may go away."""

from enoughhands.checks import is_integer
from enoughhands.counting import book_of, events_behind, rests_for
from enoughhands.days import check_case
from enoughhands.errors import BadNumber, NoRest
from enoughhands.jobs import job_of
from enoughhands.openings import has_rests, is_rest
from enoughhands.weaving import least_lots


def rests(works, day, away):
    """Return how many rests the day has."""
    check_case(works, day, away)
    job = job_of(works)
    return rests_for(job, book_of(job), day, away)


def nth_rest(works, day, away, number):
    """Return the rest with this number."""
    check_case(works, day, away)
    job = job_of(works)
    book = book_of(job)
    if not is_integer(number) or not 0 <= number < rests_for(job, book, day, away):
        raise BadNumber(number)
    return rest_at(job, book, day, away, number)


def rest_at(job, book, day, away, number):
    """Return the rest with this number."""
    whole = day
    events = events_behind(job, whole, away)
    ahead = number
    while events:
        for event in events:
            many = rests_for(job, book, (*whole, event), away)
            if ahead < many:
                whole = (*whole, event)
                break
            ahead -= many
        events = events_behind(job, whole, away)
    return whole[len(day):]


def number_of_rest(works, day, away, events):
    """Return the number of this rest."""
    check_case(works, day, away)
    job = job_of(works)
    if not is_rest(job, day, away, events):
        raise NoRest(events)
    book = book_of(job)
    whole = day
    number = 0
    for event in events:
        lesser = [other for other in events_behind(job, whole, away) if other < event]
        number += sum([rests_for(job, book, (*whole, other), away) for other in lesser])
        whole = (*whole, event)
    return number


def parted_events(works, day, away):
    """Return the events with which the day has rests, and those with which it is a day that has none."""
    check_case(works, day, away)
    job = job_of(works)
    book = book_of(job)
    open_ones = []
    shut_ones = []
    for event in events_behind(job, day, away):
        if rests_for(job, book, (*day, event), away):
            open_ones.append(event)
        else:
            shut_ones.append(event)
    return (tuple(open_ones), tuple(shut_ones))


def open_events(works, day, away):
    """Return the ascending tuple of all events with which the day is one that has rests."""
    return parted_events(works, day, away)[0]


def shut_events(works, day, away):
    """Return the ascending tuple of all events with which the day is one that has no rests."""
    return parted_events(works, day, away)[1]


def people_here(works, away):
    """Return the ascending list of all people who are not away."""
    return [person for person in sorted(list(works.crew.people)) if person not in away]


def leaving(works, day, away):
    """Return the ascending tuple of all people without whom, each by itself, the day has rests."""
    check_case(works, day, away)
    job = job_of(works)
    return tuple([
        person for person in people_here(works, away) if has_rests(job, day, tuple(sorted([*away, person])))
    ])


def has_rests_by(works, day, lot):
    """Tell whether the day has rests by these people alone."""
    others = [person for person in works.crew.people if person not in lot]
    return has_rests(job_of(works), day, tuple(sorted(others)))


def teams(works, day, away):
    """Return the ascending tuple of all least lots of people by whom the day has rests."""
    check_case(works, day, away)
    return least_lots(people_here(works, away), lambda lot: has_rests_by(works, day, lot))
