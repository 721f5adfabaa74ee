"""Whether a day can be finished whatever is told, and by which trees, or else where all is lost."""

from enoughhands.chances import eithers, plan_by
from enoughhands.checks import ascends, is_integer, is_row_of, is_said
from enoughhands.courses import all_steps, sure_ones
from enoughhands.errors import BadStanding
from enoughhands.jobs import Job, job_of
from enoughhands.openings import has_rests


def standings(works, foreign, away):
    """Return how many standings come."""
    return len(all_steps(works, foreign, away))


def is_pair_of_strings(value):
    """Tell whether any value is a pair of strings."""
    return is_row_of(value, 2) and isinstance(value[0], str) and isinstance(value[1], str)


def is_pair_of_integers(value):
    """Tell whether any value is a pair of integers."""
    return is_row_of(value, 2) and is_integer(value[0]) and is_integer(value[1])


def comes(steps, value):
    """Tell whether any value is a standing that comes."""
    if not is_row_of(value, 2) or not isinstance(value[0], tuple) or not isinstance(value[1], tuple):
        return False
    # What is no standing by its form alone may be nothing that can be looked up.
    if not all([is_pair_of_strings(event) for event in value[0]]):
        return False
    return all([is_pair_of_integers(pair) for pair in value[1]]) and value in steps


def checked_steps(works, foreign, away, standing):
    """Return the step of each standing that comes; the errors for what the functions here are handed."""
    steps = all_steps(works, foreign, away)
    if not comes(steps, standing):
        raise BadStanding(standing)
    return steps


def tree_from(steps, sure, standing):
    """Return a tree from a standing from which there is one."""
    word, what, later = steps[standing]
    if word == "done":
        return ("done",)
    if word == "ask":
        return ("told", what, tuple([tree_from(steps, sure, one) for one in later]))
    at = [one in sure for one in later].index(True)
    return ("event", what[at], tree_from(steps, sure, later[at]))


def is_tree(steps, standing, value):
    """Tell whether any value is a tree from this standing."""
    word, what, later = steps[standing]
    if word == "done":
        return value == ("done",)
    if not is_row_of(value, 3):
        return False
    if word == "ask":
        if value[0] != "told" or not is_integer(value[1]) or value[1] != what or not is_row_of(value[2], len(later)):
            return False
        return all([is_tree(steps, one, tree) for one, tree in zip(later, value[2])])
    if value[0] != "event" or value[1] not in what:
        return False
    return is_tree(steps, later[what.index(value[1])], value[2])


def stays_lost(steps, lost, standing):
    """Tell whether this one may be among lost standings, which are told as a table."""
    word, _, later = steps[standing]
    found = [one in lost for one in later]
    if word == "ask":
        return any(found)
    return word == "do" and all(found)


def are_lost(steps, standing, value):
    """Tell whether any value is lost standings, this one among them."""
    if not isinstance(value, tuple) or not all([comes(steps, one) for one in value]) or not ascends(value):
        return False
    lost = {one: True for one in value}
    return standing in lost and all([stays_lost(steps, lost, one) for one in value])


def surely(works, foreign, away, standing=((), ())):
    """Return any tree from this standing, or else lost standings with it."""
    steps = checked_steps(works, foreign, away, standing)
    sure = sure_ones(steps)
    if standing in sure:
        return ("tree", tree_from(steps, sure, standing))
    return ("lost", tuple(sorted([one for one in steps if one not in sure])))


def shows_surely(works, foreign, away, standing, value):
    """Tell whether any value is what surely may return."""
    steps = checked_steps(works, foreign, away, standing)
    if is_said(value, "tree"):
        return is_tree(steps, standing, value[1])
    return is_said(value, "lost") and are_lost(steps, standing, value[1])


def view(works, foreign, away, standing=((), ())):
    """Return how this standing goes on: with which events to trees, or of which parts to none."""
    steps = checked_steps(works, foreign, away, standing)
    sure = sure_ones(steps)
    word, what, later = steps[standing]
    if word == "done":
        return ("done",)
    if word == "ask":
        return ("ask", what, tuple([part for part, one in enumerate(later) if one not in sure]))
    return ("do", tuple([event for event, one in zip(what, later) if one in sure]))


def tellings(plan, number, foreign):
    """Return the list of all tellings of the plan, whose eithers are numbered from this number on."""
    at = number + (1 if plan.kind == "either" else 0)
    taken = plan.kind == "either" and number in foreign
    found = [] if taken else [()]
    for part_at, part in enumerate(plan.parts):
        inner = tellings(part, at, foreign)
        at += len(eithers(part))
        if taken:
            found = found + [((number, part_at), *told) for told in inner]
        else:
            wider = [ahead + told for ahead in found for told in inner]
            found = wider
    return found


def if_known(works, foreign, away):
    """Return the tellings by which, were they known ahead, the day could not be finished."""
    all_steps(works, foreign, away)
    job = job_of(works)
    found = []
    for told in tellings(works.plan, 0, foreign):
        if not has_rests(Job(plan_by(works.plan, told), job.table, job.stock, job.crew), (), away):
            found.append(told)
    return tuple(sorted(found))
