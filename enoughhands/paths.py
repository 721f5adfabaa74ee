"""All ways through a plan, told by lots: what comes next hangs on the tasks that are done alone."""

from enoughhands.going import next_tasks


def grown(lot, task):
    """Return the lot with this task, too."""
    return tuple(sorted([*lot, task]))


def ways_of(plan):
    """Return each lot of a beginning with the lot of what can come next, lesser lots first."""
    ways = {(): next_tasks(plan, ())}
    lots = [()]
    while lots:
        wider = {}
        for lot in lots:
            for task in ways[lot]:
                wider[grown(lot, task)] = True
        lots = list(wider)
        for lot in lots:
            ways[lot] = next_tasks(plan, lot)
    return ways


def many_behind(ways):
    """Return for each lot in how many sequences all that is left can be done behind it."""
    many = {}
    for lot in reversed(list(ways)):
        many[lot] = sum([many[grown(lot, task)] for task in ways[lot]]) if ways[lot] else 1
    return many


def tuples_behind(ways, lot):
    """Return the list of all these sequences behind one lot, ascending."""
    if not ways[lot]:
        return [()]
    return [(task, *later) for task in ways[lot] for later in tuples_behind(ways, grown(lot, task))]


def run_at(ways, many, number):
    """Return the run with this number; many: what many_behind tells of the ways."""
    lot = run = ()
    while ways[lot]:
        task, number = first_at(lot, ways[lot], many, number)
        lot = grown(lot, task)
        run = (*run, task)
    return run


def first_at(lot, tasks, many, number):
    """Return the task behind the lot with which the run with this number goes on, and its number behind it."""
    at = 0
    while number >= many[grown(lot, tasks[at])]:
        number = number - many[grown(lot, tasks[at])]
        at += 1
    return (tasks[at], number)


def number_along(ways, many, run):
    """Return the number of this run, by the ways and what many_behind tells of them."""
    number = 0
    lot = ()
    for task in run:
        number += sum([many[grown(lot, other)] for other in ways[lot] if other < task])
        lot = grown(lot, task)
    return number


def late_run(plan, late):
    """Return a run in which this task comes as late as it can (None: any run)."""
    done = ()
    now = next_tasks(plan, done)
    while now:
        others = [task for task in now if task != late]
        done = (*done, others[0] if others else late)
        now = next_tasks(plan, done)
    return done
