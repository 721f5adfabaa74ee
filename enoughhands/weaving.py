"""Plans by the words of their tasks with one another, told as a table {(one, other): word}."""

from enoughhands.checks import PLAN_WORDS
from enoughhands.texts import bracketed, ways_together


def table_of(plan):
    """Return the words of the plan, of each two tasks in both sequences."""
    table = {}
    add_words(table, plan)
    return table


def add_words(table, plan):
    """Put the words of the plan into the table."""
    ahead, behind = ("ahead", "behind") if plan.kind == "then" else (plan.kind, plan.kind)
    for at, part in enumerate(plan.parts):
        add_words(table, part)
        for later in plan.parts[at + 1:]:
            for one in part.tasks:
                for other in later.tasks:
                    table[(one, other)] = ahead
                    table[(other, one)] = behind


def held(task, tasks, table, word):
    """Return the lot of the tasks that must stand in the part of this one, or in one ahead of it.

    If a task does not have this word with another one, it cannot stand in a part
    ahead of that one's, so from each task this leads on to others.
    """
    found = {task: True}
    waiting = [task]
    while waiting:
        one = waiting.pop()
        for other in tasks:
            if other not in found and table[(one, other)] != word:
                found[other] = True
                waiting.append(other)
    return tuple(sorted(list(found)))


def groups_by(kind, tasks, table):
    """Return the tasks of each part, as many parts as can be, of a plan of this kind."""
    word = "ahead" if kind == "then" else kind
    groups = {}
    for task in tasks:
        groups.setdefault(held(task, tasks, table, word), []).append(task)
    # The tasks of a later part of a then are held together with all ahead of them;
    # those of a beside or an either stand in the sequence of their least tasks.
    keys = sorted(list(groups), key=len) if kind == "then" else list(groups)
    return [groups[key] for key in keys]


def woven(tasks, table):
    """Return the text of the normal plan with these words, and how many choices it has.

    The tasks are handed in ascending. None if there is no such plan.
    """
    if len(tasks) == 1:
        return (tasks[0], 1)
    for kind in PLAN_WORDS:
        groups = groups_by(kind, tasks, table)
        if len(groups) > 1:
            return woven_parts(kind, [woven(group, table) for group in groups])
    return None


def woven_parts(kind, shapes):
    """Return what woven tells of a plan by what it tells of its parts."""
    if any([shape is None for shape in shapes]):
        return None
    text = bracketed(kind, [shape[0] for shape in shapes])
    return (text, ways_together(kind, [shape[1] for shape in shapes]))


def lots_within(tasks):
    """Return the list of all lots of some of these tasks, which are handed in ascending."""
    found = [()]
    for task in tasks:
        wider = [(*lot, task) for lot in found]
        found = found + wider
    return found


def least_lots(tasks, serves):
    """Return the ascending tuple of all least lots of some of these that serve; serves tells it of a lot."""
    found = []
    # All lots within a lot come ahead of it.
    for lot in lots_within(tasks):
        if not any([all([task in lot for task in less]) for less in found]) and serves(lot):
            found.append(lot)
    return tuple(sorted(found))
