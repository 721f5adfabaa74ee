"""Shares of one person, and the stands to which they lead."""

from enoughhands.checks import is_integer, is_lot, is_row_of
from enoughhands.duties import is_task_lot
from enoughhands.errors import BadShare, BadStand, BadTasks, NoPerson
from enoughhands.marks import lot_of
from enoughhands.takings import check_told, share_marks


def shares(crew, tasks, given, away, person):
    """Return the ascending tuple of all shares of this person."""
    check_told(crew, tasks, given, away)
    if person not in crew:
        raise NoPerson(person)
    return tuple(sorted([lot_of(tasks, mark) for mark in share_marks(crew, tasks, given, away, person)]))


def is_lot_of(tasks, value):
    """Tell whether any value is a lot of some of these tasks."""
    return is_lot(value) and all([task in tasks for task in value])


def counted_lots(crew, tasks):
    """Return for each count of stands the tasks of which it counts who takes some."""
    return [tasks] + [duty[2] for duty in crew.duties if duty[0] == "few"]


def is_stand(crew, tasks, value):
    """Tell whether any value is a lot of some of the tasks, and counts."""
    if not is_row_of(value, 2) or not is_lot_of(tasks, value[0]):
        return False
    if not is_row_of(value[1], len(counted_lots(crew, tasks))):
        return False
    return all([is_integer(count) and count >= 0 for count in value[1]])


def leads(crew, tasks, stand, share):
    """Return the stand to which this one leads by this share."""
    if not is_task_lot(tasks):
        raise BadTasks(tasks)
    if not is_stand(crew, tasks, stand):
        raise BadStand(stand)
    if not is_lot_of(tasks, share) or any([task in stand[0] for task in share]):
        raise BadShare(share)
    grown = []
    for count, counted in zip(stand[1], counted_lots(crew, tasks)):
        grown.append(count + (1 if any([task in counted for task in share]) else 0))
    return (tuple(sorted(stand[0] + share)), tuple(grown))
