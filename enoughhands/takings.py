"""How people take shares of some tasks, one behind the other.

Lots are told by marks (marks.py). A stand is told by one number here: the mark of the
tasks that are taken, and from MARK_BITS on each count in COUNT_BITS more. So it grows by
a share as a number does: by the mark of the share, and by one in each count that grows.
"""

from enoughhands.duties import is_deal, is_task_lot
from enoughhands.errors import BadAway, BadDeal, BadTasks
from enoughhands.marks import lot_of, mark_of, marks_within, size_of

MARK_BITS = 8
MARKED = 255
COUNT_BITS = 4
COUNTED = 15


def are_away(crew, value):
    """Tell whether any value is an ascending tuple of people of the crew."""
    return isinstance(value, tuple) and list(value) == [one for one in sorted(list(crew.people)) if one in value]


def check_told(crew, tasks, given, away):
    """Raise the error for what is no lot of tasks, no deal of some of these, or no people who are away."""
    if not is_task_lot(tasks):
        raise BadTasks(tasks)
    if not is_deal(crew, given) or not all([task in tasks for task, person in given]):
        raise BadDeal(given)
    if not are_away(crew, away):
        raise BadAway(away)


def keeping(duty, tasks, person, marks):
    """Return those of these marks of shares by which this person alone does not break the duty."""
    if duty[0] == "most":
        return [mark for mark in marks if duty[1] != person or size_of(mark) <= duty[2]]
    if duty[0] == "few":
        return marks
    bound = mark_of(tasks, duty[1])
    if duty[0] == "same":
        return [mark for mark in marks if mark & bound in (0, bound)]
    return [mark for mark in marks if size_of(mark & bound) < 2]


def share_marks(crew, tasks, given, away, person):
    """Return the list of the marks of all shares of this person."""
    able = mark_of(tasks, crew.may(person))
    own = mark_of(tasks, [task for task, one in given if one == person])
    if own & able != own:
        return []
    free = 0 if person in away else able & ~mark_of(tasks, [task for task, one in given])
    marks = [own | mark for mark in marks_within(free)]
    for duty in crew.duties:
        marks = keeping(duty, tasks, person, marks)
    return marks


def all_marks(crew, tasks, given, away):
    """Return for each person the list of the marks of all shares."""
    return [share_marks(crew, tasks, given, away, person) for person in crew.people]


def few_bounds(crew, tasks):
    """Return for each duty few its number, and the mark of its tasks."""
    return [(duty[1], mark_of(tasks, duty[2])) for duty in crew.duties if duty[0] == "few"]


def bounds_for(crew, tasks, most):
    """Return for each count of stands the greatest that is not too great, and the mark of its tasks."""
    return [(most, mark_of(tasks, tasks))] + few_bounds(crew, tasks)


def growth(bounds, mark):
    """Return by how much the number of a stand grows by the share with this mark."""
    grown = mark
    for at, (greatest, counted) in enumerate(bounds):
        if mark & counted:
            grown += 1 << MARK_BITS + COUNT_BITS * at
    return grown


def counts_in(bounds, number):
    """Return the counts of the stand with this number."""
    counts = []
    left = number >> MARK_BITS
    for _ in bounds:
        counts.append(left & COUNTED)
        left = left >> COUNT_BITS
    return tuple(counts)


def mark_in(number):
    """Return the mark of the tasks that the stand with this number has."""
    return number & MARKED


def is_too_great(bounds, counts):
    """Tell whether a count is too great."""
    return any([count > greatest for count, (greatest, counted) in zip(counts, bounds)])


def told_stand(tasks, bounds, number):
    """Return the stand with this number as (lot, counts)."""
    return (lot_of(tasks, mark_in(number)), counts_in(bounds, number))


def number_of_stand(tasks, stand):
    """Return the number of this stand, none of whose counts is too great."""
    number = mark_of(tasks, stand[0])
    for at, count in enumerate(stand[1]):
        number += count << MARK_BITS + COUNT_BITS * at
    return number


def led_to(ahead, marks, bounds):
    """Return all stands to which these lead by these shares, each with (stand ahead, share)."""
    grown = {mark: growth(bounds, mark) for mark in marks}
    found = {}
    for stand in ahead:
        for mark in grown:
            later = stand + grown[mark]
            if not stand & mark and later not in found:
                found[later] = (stand, mark)
    return {stand: found[stand] for stand in found if not is_too_great(bounds, counts_in(bounds, stand))}


def layers_of(marks, bounds):
    """Return for each person what led_to tells of the stands that are reached so far."""
    layers = []
    ahead = {0: True}
    for own in marks:
        layers.append(led_to(ahead, own, bounds))
        ahead = layers[-1]
    return layers


def full_stands(tasks, bounds, layers):
    """Return the list of the last stands that have all tasks, those with fewer people first."""
    full = mark_of(tasks, tasks)
    found = [stand for stand in layers[-1] if mark_in(stand) == full]
    return sorted(found, key=lambda stand: counts_in(bounds, stand))


def deal_to(crew, tasks, layers, stand):
    """Return the deal that leads to this stand of the last layer."""
    pairs = []
    at = stand
    for person, layer in reversed(list(zip(crew.people, layers))):
        at, mark = layer[at]
        pairs.extend([(task, person) for task in lot_of(tasks, mark)])
    return tuple(sorted(pairs))


def good_steps(tasks, marks, bounds):
    """Return for each person all (stand, share, stand behind it) of which some deal of the tasks is put together."""
    layers = [{0: True}] + layers_of(marks, bounds)
    good = {stand: True for stand in full_stands(tasks, bounds, layers)}
    steps = []
    for own, ahead in reversed(list(zip(marks, layers))):
        grown = {mark: growth(bounds, mark) for mark in own}
        found = [(stand, mark, stand + grown[mark]) for stand in ahead for mark in grown
                 if not stand & mark and stand + grown[mark] in good]
        good = {stand: True for stand, mark, later in found}
        steps.append(found)
    return steps[::-1]
