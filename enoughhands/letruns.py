"""Let runs: how many, each by its number, and from one to another one."""

from enoughhands.checks import are_names, ascends, is_integer, is_said
from enoughhands.errors import BadNumber, BadRun, TooMany
from enoughhands.letting import safe_ways
from enoughhands.lots import checked_table
from enoughhands.paths import grown, many_behind, number_along, run_at, tuples_behind, ways_of
from enoughhands.runs import MOST_TOLD, are_neighbours, exchanged
from enoughhands.stuck import is_let_run
from enoughhands.trades import trade_table


def many_let(safe):
    """Return how many runs are let, by what safe_ways tells."""
    return many_behind(safe)[()] if safe else 0


def let_many(plan, trade, stock):
    """Return how many runs are let."""
    return many_let(safe_ways(ways_of(plan), checked_table(trade, stock), stock))


def let_nth(plan, trade, stock, number):
    """Return the let run with this number."""
    safe = safe_ways(ways_of(plan), checked_table(trade, stock), stock)
    if not is_integer(number) or not 0 <= number < many_let(safe):
        raise BadNumber(number)
    return run_at(safe, many_behind(safe), number)


def let_number(plan, trade, stock, run):
    """Return the number of this let run."""
    table = checked_table(trade, stock)
    check_let(plan, table, stock, run)
    safe = safe_ways(ways_of(plan), table, stock)
    return number_along(safe, many_behind(safe), run)


def check_let(plan, table, stock, run):
    """Raise the error for what is no let run."""
    if not is_let_run(plan, table, stock, run):
        raise BadRun(run)


def let_every(plan, trade, stock):
    """Return all let runs, in sequence."""
    return runs_let(plan, checked_table(trade, stock), stock)


def runs_let(plan, table, stock):
    """Return all let runs, in sequence; the error if there are too many."""
    safe = safe_ways(ways_of(plan), table, stock)
    if many_let(safe) > MOST_TOLD:
        raise TooMany(MOST_TOLD)
    return tuple(tuples_behind(safe, ())) if safe else ()


def let_stairs(plan, trade):
    """Return each stock at which more runs are let than at each lesser one, with how many."""
    numbers = numbers_by_least(ways_of(plan), trade_table(trade))
    found = []
    number = 0
    for stock in sorted(list(numbers)):
        number += numbers[stock]
        found.append((stock, number))
    return tuple(found)


def numbers_by_least(ways, table):
    """Return for each stock of how many runs it is the least at which they are let."""
    behind = {}
    for lot in reversed(list(ways)):
        behind[lot] = {} if ways[lot] else {0: 1}
        for task in ways[lot]:
            need, gain = table.get(task, (0, 0))
            for level, number in behind[grown(lot, task)].items():
                wanted = max(need, level - gain)
                behind[lot][wanted] = behind[lot].get(wanted, 0) + number
    return behind[()]


def checked_runs(plan, trade, stock, one, other):
    """Return a table of all let runs; the errors for what joined is handed."""
    table = checked_table(trade, stock)
    check_let(plan, table, stock, one)
    check_let(plan, table, stock, other)
    return {run: True for run in runs_let(plan, table, stock)}


def led_from(runs, one):
    """Return all of these runs to which exchanges lead, each with the one ahead of it."""
    ahead = {one: one}
    wave = [one]
    while wave:
        found = []
        for run in wave:
            for other in next_runs(runs, run):
                if other not in ahead:
                    ahead[other] = run
                    found.append(other)
        wave = found
    return ahead


def next_runs(runs, run):
    """Return the list of those of the runs that come of this one by exchanging two neighbours."""
    others = [exchanged(run, at) for at in range(len(run) - 1)]
    return [other for other in others if other in runs]


def rows_to(ahead, other):
    """Return the runs on the way to this one, by what led_from tells."""
    rows = [other]
    while ahead[rows[-1]] != rows[-1]:
        rows.append(ahead[rows[-1]])
    return tuple(rows[::-1])


def joined(plan, trade, stock, one, other):
    """Return any shortest row of let runs from one to other, or let runs that lead not to it."""
    ahead = led_from(checked_runs(plan, trade, stock, one, other), one)
    if other in ahead:
        return ("rows", rows_to(ahead, other))
    return ("apart", tuple(sorted(list(ahead))))


def shows_joined(plan, trade, stock, one, other, value):
    """Tell whether any value is what joined may return."""
    runs = checked_runs(plan, trade, stock, one, other)
    if not is_said(value, "rows") and not is_said(value, "apart"):
        return False
    told = value[1]
    if not isinstance(told, tuple) or not all([are_names(run) and run in runs for run in told]):
        return False
    if value[0] == "rows":
        return are_rows(led_from(runs, one), one, other, told)
    if not ascends(told) or one not in told or other in told:
        return False
    return all([later in told for run in told for later in next_runs(runs, run)])


def are_rows(ahead, one, other, rows):
    """Tell whether these let runs are a shortest row from one to other, by what led_from tells."""
    if other not in ahead or len(rows) != len(rows_to(ahead, other)):
        return False
    if rows[0] != one or rows[-1] != other:
        return False
    return all([are_neighbours(rows[at], rows[at + 1]) for at in range(len(rows) - 1)])
