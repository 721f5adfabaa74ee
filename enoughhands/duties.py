"""Deals, whether their people keep the duties, and patterns of tasks."""

from enoughhands.checks import ascends, is_lot, is_name, is_row_of
from enoughhands.errors import BadDeal, BadTasks, TooMany
from enoughhands.lines import MOST_TASKS

MOST_PATTERNS = 200


def is_deal(crew, value):
    """Tell whether any value is a deal, kept or not."""
    if not isinstance(value, tuple) or len(value) > MOST_TASKS:
        return False
    if not all([is_row_of(pair, 2) and is_name(pair[0]) and pair[1] in crew for pair in value]):
        return False
    return ascends([pair[0] for pair in value])


def check_deal(crew, deal):
    """Raise the error for what is no deal."""
    if not is_deal(crew, deal):
        raise BadDeal(deal)


def is_task_lot(value):
    """Tell whether any value is a lot of at most as many tasks as a deal may have."""
    return is_lot(value) and len(value) <= MOST_TASKS


def is_broken(duty, deal):
    """Tell whether this deal does not keep the duty."""
    if duty[0] == "most":
        return len([task for task, person in deal if person == duty[1]]) > duty[2]
    people = [person for task, person in deal if task in duty[-1]]
    if duty[0] == "unlike":
        return len(set(people)) < len(people)
    return len(set(people)) > (1 if duty[0] == "same" else duty[1])


def broken_by(crew, deal):
    """Return the tasks which their people may not do, and the numbers of the duties not kept."""
    tasks = tuple([task for task, person in deal if task not in crew.mays[person]])
    return (tasks, tuple([at for at, duty in enumerate(crew.duties) if is_broken(duty, deal)]))


def broken(crew, deal):
    """Return the tasks which their people may not do, and the numbers of the duties not kept."""
    check_deal(crew, deal)
    return broken_by(crew, deal)


def is_kept(crew, deal):
    """Tell whether this deal is kept."""
    return broken(crew, deal) == ((), ())


def keeps(crew, value):
    """Tell whether any value is a deal that the crew keeps."""
    return is_deal(crew, value) and broken_by(crew, value) == ((), ())


def pattern_of(crew, deal):
    """Return the pattern of the tasks of a deal: those of one person are together."""
    check_deal(crew, deal)
    lots = [tuple([task for task, one in deal if one == person]) for person in crew.people]
    return tuple(sorted([lot for lot in lots if lot]))


def with_next(pattern, task):
    """Return the list of all patterns with this task, too, which is greater than the others."""
    found = [pattern[:at] + ((*lot, task),) + pattern[at + 1:] for at, lot in enumerate(pattern)]
    return [*found, (*pattern, (task,))]


def is_fair(duty, pattern):
    """Tell whether these lots, each taken by another one, keep the duty."""
    # Numbers stand for the people, so no duty most is about any of them.
    return not is_broken(duty, [(task, at) for at, lot in enumerate(pattern) for task in lot])


def patterns(crew, tasks):
    """Return the ascending tuple of all fair patterns of these tasks."""
    if not is_task_lot(tasks):
        raise BadTasks(tasks)
    found = [()]
    for task in tasks:
        wider = [more for pattern in found for more in with_next(pattern, task)]
        # With further tasks a pattern that is not fair never gets fair.
        found = [pattern for pattern in wider if all([is_fair(duty, pattern) for duty in crew.duties])]
    if len(found) > MOST_PATTERNS:
        raise TooMany(MOST_PATTERNS)
    return tuple(sorted(found))
