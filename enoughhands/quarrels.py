"""Which duties bar that a day can be finished, and which of them would have to be dropped."""

from enoughhands.crews import Crew
from enoughhands.dealranks import deals_for
from enoughhands.jobs import fitting, job_of
from enoughhands.openings import is_open_by_stock
from enoughhands.weaving import lots_within


def crew_with(crew, numbers):
    """Return the Crew with just these of its duties."""
    lines = crew.text.split("\n")
    duties = lines[len(crew):]
    return Crew("\n".join(lines[:len(crew)] + [duties[number] for number in numbers]))


def can_be_dealt(crew, choices, numbers):
    """Tell whether one of these choices can be dealt with just these duties."""
    told = crew_with(crew, numbers)
    return any([deals_for(told, choice, (), ()) > 0 for choice in choices])


def widened(crew, choices, lot):
    """Return a greatest lot of duties around this one with which one of the choices can be dealt."""
    wide = lot
    for number in range(len(crew.duties)):
        if number not in wide and can_be_dealt(crew, choices, (*wide, number)):
            wide = (*wide, number)
    return wide


def is_within(lot, wider):
    """Tell whether this lot is within the wider one."""
    return all([one in wider for one in lot])


def bounds_between(works):
    """Return the list of all greatest lots of duties with which the day has rests, and of all least without.

    With fewer duties no rest is lost, so what is told of one lot is told of those within
    it, or of those around it. All lots within a lot are gone through ahead of it.
    """
    job = job_of(works)
    choices = [choice for choice in fitting(job, ()) if is_open_by_stock(job, (), choice)]
    wide = []
    small = []
    for lot in lots_within(tuple(range(len(works.crew.duties)))):
        if any([is_within(lot, one) for one in wide]) or any([is_within(one, lot) for one in small]):
            continue
        if can_be_dealt(works.crew, choices, lot):
            wide.append(widened(works.crew, choices, lot))
        else:
            small.append(lot)
    return (wide, small)


def quarrels(works):
    """Return the ascending tuple of all least lots of duties with which the day has no rests."""
    return tuple(sorted(bounds_between(works)[1]))


def freed(works):
    """Return the ascending tuple of all least lots of duties without which the day has rests."""
    numbers = list(range(len(works.crew.duties)))
    lots = bounds_between(works)[0]
    return tuple(sorted([tuple([number for number in numbers if number not in lot]) for lot in lots]))
