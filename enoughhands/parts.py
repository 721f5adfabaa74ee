"""Parts of a plan that can be exchanged."""

from enoughhands.checks import is_lot, is_task_name
from enoughhands.errors import BadLot, BadName, BadOther, Wide
from enoughhands.plans import Plan
from enoughhands.texts import MOST
from enoughhands.weaving import lots_within, table_of, woven


def is_part(plan, value):
    """Tell whether any value is a lot of some of the tasks, one at least."""
    return is_lot(value) and len(value) > 0 and all([task in plan for task in value])


def rest_of(plan, tasks):
    """Return the list of the other tasks of the plan."""
    return [task for task in plan.tasks if task not in tasks]


def holds_together(plan, table, lot):
    """Tell whether each other task has one word with all tasks of this lot."""
    return all([
        table[(task, one)] == table[(task, lot[0])] for task in rest_of(plan, lot) for one in lot
    ])


def clusters(plan):
    """Return the ascending tuple of all clusters."""
    table = table_of(plan)
    lots = lots_within(sorted(list(plan.tasks)))
    return tuple(sorted([lot for lot in lots if len(lot) > 0 and holds_together(plan, table, lot)]))


def is_cluster(plan, value):
    """Tell whether any value is a cluster."""
    return is_part(plan, value) and holds_together(plan, table_of(plan), value)


def only(plan, tasks):
    """Return the normal Plan of these tasks alone, with the words that they have."""
    if not is_part(plan, tasks):
        raise BadLot(tasks)
    return Plan(woven(tasks, table_of(plan))[0])


def exchanged_text(plan, tasks, other):
    """Return the text of the normal plan with other in the place of this cluster."""
    rest = rest_of(plan, tasks)
    if len(rest) + len(other) > MOST:
        raise Wide(MOST)
    words = table_of(plan)
    table = table_of(other)
    for one in rest:
        for task in rest:
            if one != task:
                table[(one, task)] = words[(one, task)]
        for task in other.tasks:
            table[(one, task)] = words[(one, tasks[0])]
            table[(task, one)] = words[(tasks[0], one)]
    text, ways = woven(sorted([*rest, *other.tasks]), table)
    if ways > MOST:
        raise Wide(MOST)
    return text


def put(plan, tasks, other):
    """Return the normal Plan in which other stands in the place of this cluster."""
    if not is_cluster(plan, tasks):
        raise BadLot(tasks)
    if not isinstance(other, Plan) or any([task in other for task in rest_of(plan, tasks)]):
        raise BadOther(other)
    return Plan(exchanged_text(plan, tasks, other))


def around(plan, tasks, name):
    """Return the normal Plan in which one task stands in the place of this cluster."""
    if not is_cluster(plan, tasks):
        raise BadLot(tasks)
    if not is_task_name(name) or name in rest_of(plan, tasks):
        raise BadName(name)
    return Plan(exchanged_text(plan, tasks, Plan(name)))
