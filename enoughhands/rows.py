"""The least stock of a plan, and rows: what matters of steps that go beside other ones."""

from enoughhands.checks import is_integer, is_row_of
from enoughhands.errors import BadRow, NotEnough, NotPlain
from enoughhands.going import is_whole_run
from enoughhands.letting import level_of, lows_of, need_of, run_along, safe_ways
from enoughhands.paths import ways_of
from enoughhands.stairs import back_steps, check_steps, climbs, is_stairs, last_pair, stairs_for
from enoughhands.trades import check_stock, least_for, steps_for, trade_table


def first(plan, trade):
    """Return the least stock at which some run is let, and any such run."""
    table = trade_table(trade)
    ways = ways_of(plan)
    stock = lows_of(ways, table)[()]
    return ("first", stock, run_along(safe_ways(ways, table, stock)))


def shows_first(plan, trade, value):
    """Tell whether any value is what first may return."""
    table = trade_table(trade)
    if not is_row_of(value, 3) or value[0] != "first" or not is_integer(value[1]):
        return False
    stock, run = value[1:]
    if stock != lows_of(ways_of(plan), table)[()] or not is_whole_run(plan, run):
        return False
    return least_for(steps_for(table, run)) <= stock


def spare(plan, trade, stock):
    """Return for each task by how much its need could be greater, None for any number."""
    table = trade_table(trade)
    check_stock(stock)
    ways = ways_of(plan)
    lowest = lows_of(ways, table)[()]
    if lowest > stock:
        raise NotEnough(lowest)
    safe = safe_ways(ways, table, stock)
    return tuple([(task, spare_of(safe, table, stock, task)) for task in plan.tasks])


def spare_of(safe, table, stock, task):
    """Return by how much the need of this task could be greater, by what safe_ways tells."""
    # Behind just the safe lots that are choices nothing comes: these are the let runs' ends.
    if any([task not in lot for lot in safe if not safe[lot]]):
        return None
    found = [level_of(table, stock, lot) for lot in safe if task in safe[lot]]
    return max(found) - need_of(table, task)


def row_for(steps):
    """Return the row of what surely are steps."""
    together = sum([gain for need, gain in steps])
    return (least_for(steps), together, stairs_for(steps), stairs_for(back_steps(steps)))


def row_of(steps):
    """Return the row of these steps."""
    check_steps(steps)
    return row_for(steps)


def is_plan_row(value):
    """Tell whether any value is a row."""
    if not is_row_of(value, 4) or not is_integer(value[0]) or not is_integer(value[1]):
        return False
    lowest, together, ahead, behind = value
    if not is_stairs(ahead) or not is_stairs(behind):
        return False
    base, gain = last_pair(ahead)
    its, lost = last_pair(behind)
    return together == gain - lost and lowest >= base and lowest + together >= its


def check_row(row):
    """Raise the error for what is no row."""
    if not is_plan_row(row):
        raise BadRow(row)


def back_row(row):
    """Return the row of the steps told backwards."""
    lowest, together, ahead, behind = row
    return (lowest + together, -together, behind, ahead)


def back(row):
    """Return the row of the steps told backwards, of any steps of this row."""
    check_row(row)
    return back_row(row)


def steps_up(stairs):
    """Return the steps that climb these stairs, one for each pair."""
    gains = [0] + [gain for base, gain in stairs]
    return [(base + gains[at], gain - gains[at]) for at, (base, gain) in enumerate(stairs)]


def plain_steps(row):
    """Return the fewest steps of this row, as they are told in one way."""
    check_row(row)
    lowest, together, ahead, behind = row
    base, gain = last_pair(ahead)
    its = last_pair(behind)[0]
    middle = []
    # Without stairs base and its are 0, so more than these is more than 0, too.
    if lowest > base and lowest + together > its:
        middle = [(lowest + gain, 0)]
    return tuple(steps_up(ahead) + middle + back_steps(steps_up(behind)))


def climbing_parts(tasks, steps):
    """Return the list of (need, tasks), one for each pair of the stairs of these steps.

    So many of the first tasks come to the top, and each part needs so much of the level.
    """
    parts = []
    begun = gained = 0
    for base, gain, number in climbs(steps):
        parts.append((base + gained, tasks[begun:number]))
        begun = number
        gained = gain
    return parts


def woven_climb(rows):
    """Return the tasks of these (tasks, steps) up to the tops of all, the least needs first."""
    parts = [part for tasks, steps in rows for part in climbing_parts(tasks, steps)]
    parts = sorted(parts, key=lambda climb: climb[0])
    return tuple([task for need, tasks in parts for task in tasks])


def woven_runs(runs, table):
    """Return a best run beside of best runs: up to all tops, what stays there, and down."""
    rows = [(run, steps_for(table, run)) for run in runs]
    turned = [(run[::-1], back_steps(steps)) for run, steps in rows]
    up = woven_climb(rows)
    down = woven_climb(turned)[::-1]
    ends = (*up, *down)
    stays = tuple([task for run in runs for task in run if task not in ends])
    return (*up, *stays, *down)


def best_for(plan, table):
    """Return any best run of a plain plan."""
    if plan.kind == "task":
        return plan.tasks
    runs = [best_for(part, table) for part in plan.parts]
    if plan.kind == "then":
        return tuple([task for run in runs for task in run])
    return woven_runs(runs, table)


def check_plain(plan):
    """Raise the error for a plan that is not plain."""
    if not plan.is_plain:
        raise NotPlain(len(plan.choices))


def best_row(plan, trade):
    """Return the row of the best runs; the errors for the trade, and for what is not plain."""
    table = trade_table(trade)
    check_plain(plan)
    return row_for(steps_for(table, best_for(plan, table)))


def row(plan, trade):
    """Return the row of the best runs of a plain plan."""
    return best_row(plan, trade)


def best(plan, trade):
    """Return any best run of a plain plan."""
    table = trade_table(trade)
    check_plain(plan)
    return best_for(plan, table)


def shows_best(plan, trade, value):
    """Tell whether any value is a best run."""
    wanted = best_row(plan, trade)
    if not is_whole_run(plan, value):
        return False
    return row_for(steps_for(trade_table(trade), value)) == wanted
