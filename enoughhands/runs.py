"""Runs of a plan: how many, each by its number, and from one to another one."""

from enoughhands.checks import is_integer, is_said
from enoughhands.errors import BadNumber, BadRun, TooMany, Unlike
from enoughhands.going import is_whole_run
from enoughhands.paths import many_behind, number_along, run_at, tuples_behind, ways_of

MOST_TOLD = 200


def many(plan):
    """Return how many runs there are."""
    return many_behind(ways_of(plan))[()]


def is_run(plan, value):
    """Tell whether any value is a run."""
    return is_whole_run(plan, value)


def nth(plan, number):
    """Return the run with this number."""
    ways = ways_of(plan)
    behind = many_behind(ways)
    if not is_integer(number) or not 0 <= number < behind[()]:
        raise BadNumber(number)
    return run_at(ways, behind, number)


def number_of(plan, run):
    """Return the number of this run."""
    if not is_run(plan, run):
        raise BadRun(run)
    ways = ways_of(plan)
    return number_along(ways, many_behind(ways), run)


def every(plan):
    """Return all runs, in sequence."""
    ways = ways_of(plan)
    if many_behind(ways)[()] > MOST_TOLD:
        raise TooMany(MOST_TOLD)
    return tuple(tuples_behind(ways, ()))


def lots(plan):
    """Return the ascending tuple of the lots of the tasks of all beginnings."""
    return tuple(sorted(list(ways_of(plan))))


def check_two(plan, one, other):
    """Raise the error for what cannot be led from one to other."""
    if not is_run(plan, one):
        raise BadRun(one)
    if not is_run(plan, other):
        raise BadRun(other)
    if sorted(list(one)) != sorted(list(other)):
        raise Unlike(None)


def turned_pairs(one, other):
    """Return how many two tasks stand otherwise about in both."""
    places = [other.index(task) for task in one]
    return sum([1 for at, place in enumerate(places) for later in places[at + 1:] if later < place])


def exchanged(run, at):
    """Return the run with the task at this place, and the next one, exchanged."""
    return run[:at] + (run[at + 1], run[at]) + run[at + 2:]


def are_neighbours(one, other):
    """Tell whether other comes of one by exchanging two neighbours."""
    return any([exchanged(one, at) == other for at in range(len(one) - 1)])


def between(plan, one, other):
    """Return any shortest row of runs from one to other, by exchanges of two neighbours."""
    check_two(plan, one, other)
    rows = [one]
    while rows[-1] != other:
        run = rows[-1]
        # Two neighbours that stand otherwise in other are bound to no sequence, so
        # what comes of exchanging them is a run, and one step nearer to other.
        wrong = [at for at in range(len(run) - 1) if other.index(run[at]) > other.index(run[at + 1])]
        rows.append(exchanged(run, wrong[0]))
    return ("rows", tuple(rows))


def shows_between(plan, one, other, value):
    """Tell whether any value is such a row."""
    check_two(plan, one, other)
    if not is_said(value, "rows") or not isinstance(value[1], tuple):
        return False
    rows = value[1]
    if len(rows) != turned_pairs(one, other) + 1 or rows[0] != one or rows[-1] != other:
        return False
    if not all([is_run(plan, run) for run in rows]):
        return False
    return all([are_neighbours(rows[at], rows[at + 1]) for at in range(len(rows) - 1)])
