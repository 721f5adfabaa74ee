"""The words that tell how two tasks of a plan stand to one another."""

from enoughhands.checks import ascends, is_row_of, is_said, is_task_name
from enoughhands.errors import BadPairs, BadPlan, NoTask, Same, Wide
from enoughhands.plans import Plan
from enoughhands.texts import MOST
from enoughhands.weaving import lots_within, table_of, woven

CONTRARY = {"ahead": "behind", "behind": "ahead", "beside": "beside", "either": "either"}


def word(plan, one, other):
    """Return the word of these two tasks."""
    if one not in plan:
        raise NoTask(one)
    if other not in plan:
        raise NoTask(other)
    if one == other:
        raise Same(one)
    return table_of(plan)[(one, other)]


def words(plan):
    """Return the ascending tuple of all words, of each two tasks the lesser one first."""
    table = table_of(plan)
    return tuple(sorted([(one, other, table[(one, other)]) for one, other in table if one < other]))


def is_pair(value):
    """Tell whether any value is two names of tasks, the lesser one first, and their word."""
    if not is_row_of(value, 3) or not all([isinstance(part, str) for part in value]):
        return False
    one, other, between = value
    return is_task_name(one) and is_task_name(other) and one < other and between in CONTRARY


def are_pairs(value):
    """Tell whether any value is pairs."""
    if not isinstance(value, tuple) or not all([is_pair(pair) for pair in value]):
        return False
    many = len(tasks_of(value))
    if not ascends(value) or not 2 <= many <= MOST:
        return False
    unlike = len({(one, other) for one, other, between in value})
    return unlike == len(value) == many * (many - 1) // 2


def tasks_of(pairs):
    """Return the lot of the tasks that pairs name."""
    return tuple(sorted({task for one, other, between in pairs for task in (one, other)}))


def table_by(pairs):
    """Return the words that pairs tell, of each two tasks in both sequences."""
    table = {}
    for one, other, between in pairs:
        table[(one, other)] = between
        table[(other, one)] = CONTRARY[between]
    return table


def plan_by(pairs):
    """Return the text of the plan with these words, None if there is none."""
    if not are_pairs(pairs):
        raise BadPairs(pairs)
    shape = woven(tasks_of(pairs), table_by(pairs))
    if shape is None:
        return None
    if shape[1] > MOST:
        raise Wide(MOST)
    return shape[0]


def is_stuck(pairs, lot):
    """Tell whether no plan of this lot of tasks has the words that pairs tell."""
    return woven(lot, table_by(pairs)) is None


def told(pairs):
    """Return the plan with these words, or three or four tasks of which there is none."""
    text = plan_by(pairs)
    if text is not None:
        return ("plan", text)
    lots = lots_within(tasks_of(pairs))
    stuck = [lot for lot in lots if 3 <= len(lot) <= 4 and is_stuck(pairs, lot)]
    return ("stuck", stuck[0])


def shows_told(pairs, value):
    """Tell whether any value is such a plan, or such tasks."""
    text = plan_by(pairs)
    if is_said(value, "plan"):
        return text is not None and has_words(value[1], pairs)
    if not is_said(value, "stuck"):
        return False
    lot = value[1]
    return lot in lots_within(tasks_of(pairs)) and 3 <= len(lot) <= 4 and is_stuck(pairs, lot)


def has_words(value, pairs):
    """Tell whether any value is the text of a plan with just these words."""
    try:
        plan = Plan(value)
    except BadPlan:
        return False
    return words(plan) == pairs
