"""Hands: all that people can take one behind the other, where something is always left."""

from enoughhands.checks import ascends, is_integer, is_row_of
from enoughhands.errors import BadNumber
from enoughhands.lines import MOST_PEOPLE
from enoughhands.shares import is_stand
from enoughhands.takings import all_marks, bounds_for, check_told, is_too_great, layers_of, led_to
from enoughhands.takings import number_of_stand, told_stand


def check_most(most):
    """Raise the error for what is no greatest number of people."""
    if not is_integer(most) or not 0 <= most <= MOST_PEOPLE:
        raise BadNumber(most)


def told_layers(tasks, bounds, layers):
    """Return the stands of each layer, as they are told."""
    return tuple([tuple(sorted([told_stand(tasks, bounds, stand) for stand in layer])) for layer in layers])


def hands_for(crew, tasks, given, away, most):
    """Return all stands that are reached person by person."""
    bounds = bounds_for(crew, tasks, most)
    return told_layers(tasks, bounds, layers_of(all_marks(crew, tasks, given, away), bounds))


def reached(crew, tasks, given, away, most):
    """Return for each person all stands that are reached by the shares up to this one."""
    check_told(crew, tasks, given, away)
    check_most(most)
    return hands_for(crew, tasks, given, away, most)


def are_stands(crew, tasks, value):
    """Tell whether any value is an ascending tuple of stands for each person."""
    if not is_row_of(value, len(crew)):
        return False
    for stands in value:
        if not isinstance(stands, tuple) or not all([is_stand(crew, tasks, stand) for stand in stands]):
            return False
    return all([ascends(stands) for stands in value])


def are_hands(crew, tasks, given, away, most, value):
    """Tell whether any value is hands for at most so many people."""
    if not are_stands(crew, tasks, value) or any([stand[0] == tasks for stand in value[-1]]):
        return False
    bounds = bounds_for(crew, tasks, most)
    ahead = {0: True}
    for marks, stands in zip(all_marks(crew, tasks, given, away), value):
        fit = [stand for stand in stands if not is_too_great(bounds, stand[1])]
        here = {number_of_stand(tasks, stand): True for stand in fit}
        if any([later not in here for later in led_to(ahead, marks, bounds)]):
            return False
        ahead = here
    return True


def is_hands(crew, tasks, given, away, most, value):
    """Tell whether any value is hands for at most so many people."""
    check_told(crew, tasks, given, away)
    check_most(most)
    return are_hands(crew, tasks, given, away, most, value)
