"""Eithers of a plan that somebody else chooses, and what is told of them."""

from enoughhands.checks import ascends, is_integer, is_row_of
from enoughhands.errors import BadForeign, BadLot, BadTold
from enoughhands.going import next_tasks
from enoughhands.paths import ways_of
from enoughhands.plans import Plan
from enoughhands.texts import bracketed


def eithers(plan):
    """Return the tuple of all eithers of the plan, in the sequence in which they begin."""
    found = [plan] if plan.kind == "either" else []
    for part in plan.parts:
        found.extend(eithers(part))
    return tuple(found)


def check_foreign(plan, foreign):
    """Raise the error for what are no numbers of eithers that somebody else chooses."""
    many = len(eithers(plan))
    right = isinstance(foreign, tuple) and all([is_integer(number) and 0 <= number < many for number in foreign])
    if not right or not ascends(foreign):
        raise BadForeign(foreign)


def is_part(every, foreign, value):
    """Tell whether any value is the number of a foreign either and that of one of its parts."""
    if not is_row_of(value, 2) or not is_integer(value[0]) or not is_integer(value[1]):
        return False
    return value[0] in foreign and 0 <= value[1] < len(every[value[0]].parts)


def check_answers(plan, foreign, told):
    """Raise the error for what are no foreign eithers, then for what is not told of them."""
    check_foreign(plan, foreign)
    every = eithers(plan)
    right = isinstance(told, tuple) and all([is_part(every, foreign, pair) for pair in told])
    if not right or not ascends([pair[0] for pair in told]):
        raise BadTold(told)


def text_by(plan, number, told):
    """Return the text of the plan, whose eithers are numbered from this number on, by what is told."""
    if plan.kind == "task":
        return plan.text
    at = number + (1 if plan.kind == "either" else 0)
    texts = []
    for part in plan.parts:
        texts.append(text_by(part, at, told))
        at += len(eithers(part))
    if plan.kind == "either":
        for one, part_told in told:
            if one == number:
                return texts[part_told]
    return bracketed(plan.kind, texts)


def plan_by(plan, told):
    """Return the Plan in which each either that is told is its part."""
    return Plan(text_by(plan, 0, told))


def by(plan, foreign, told):
    """Return the Plan in which each either that is told is its part."""
    check_answers(plan, foreign, told)
    return plan_by(plan, told)


def asked_by(every, foreign, told, now):
    """Return the numbers of the foreign eithers that are not told and have some of the tasks that can come now."""
    known = [one for one, part in told]
    return tuple([
        one for one in foreign if one not in known and any([task in every[one] for task in now])
    ])


def asks(plan, foreign, told, tasks):
    """Return the numbers of the foreign eithers that are to be told behind these tasks."""
    check_answers(plan, foreign, told)
    told_plan = plan_by(plan, told)
    if tasks not in list(ways_of(told_plan)):
        raise BadLot(tasks)
    return asked_by(eithers(plan), foreign, told, next_tasks(told_plan, tasks))
