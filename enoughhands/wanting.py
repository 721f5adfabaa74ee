"""Where duties tell only how much each person does: a deal, or more tasks than there is room for."""

from enoughhands.checks import is_said
from enoughhands.dealing import dealt_to, is_deal_of
from enoughhands.duties import is_task_lot
from enoughhands.errors import BadTasks, NotSimple
from enoughhands.lines import MOST_TASKS
from enoughhands.shares import is_lot_of
from enoughhands.weaving import lots_within


def check_simple(crew, tasks):
    """Raise the error for what is no lot of tasks, and for a duty that is no duty most."""
    if not is_task_lot(tasks):
        raise BadTasks(tasks)
    others = [at for at, duty in enumerate(crew.duties) if duty[0] != "most"]
    if others:
        raise NotSimple(others[0])


def room_of(crew, person):
    """Return how many tasks this person may do at most."""
    return min([MOST_TASKS] + [duty[2] for duty in crew.duties if duty[1] == person])


def is_wanting(crew, lot):
    """Tell whether the lot is greater than the rooms of all people who may do some of it."""
    people = [person for person in crew.people if any([task in lot for task in crew.may(person)])]
    return len(lot) > sum([room_of(crew, person) for person in people])


def wanting(crew, tasks):
    """Return any deal of the tasks, or any lot of these that is greater than the rooms for it."""
    check_simple(crew, tasks)
    told = dealt_to(crew, tasks, (), (), len(crew))
    if told[0] == "deal":
        return told
    return ("want", [lot for lot in lots_within(tasks) if is_wanting(crew, lot)][0])


def shows_wanting(crew, tasks, value):
    """Tell whether any value is what wanting may return."""
    check_simple(crew, tasks)
    if is_said(value, "deal"):
        return is_deal_of(crew, tasks, (), (), value[1])
    return is_said(value, "want") and is_lot_of(tasks, value[1]) and is_wanting(crew, value[1])
