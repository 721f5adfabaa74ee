"""Whether a plan can be done at a stock, and where it gets stuck."""

from enoughhands.checks import is_said
from enoughhands.errors import NoRun
from enoughhands.going import is_beginning, is_over, is_whole_run
from enoughhands.letting import firsts_of, level_of, need_of, reached_ways, run_along, safe_ways
from enoughhands.lots import are_closed, checked_table, reached_for
from enoughhands.paths import grown, ways_of
from enoughhands.trades import levels_from, steps_for, trade_table


def is_let(table, stock, tasks):
    """Tell whether these tasks are let in turn at this stock."""
    return len(levels_from(stock, steps_for(table, tasks))) == len(tasks) + 1


def can_at(plan, table, stock):
    """Return any let run, or closed lots without a choice."""
    safe = safe_ways(ways_of(plan), table, stock)
    if safe:
        return ("run", run_along(safe))
    return ("stuck", reached_for(plan, table, stock))


def can(plan, trade, stock):
    """Return any let run, or closed lots without a choice."""
    return can_at(plan, checked_table(trade, stock), stock)


def are_stuck(plan, table, stock, value):
    """Tell whether any value is closed lots without a choice."""
    return are_closed(ways_of(plan), table, stock, value) and all([lot not in plan.choices for lot in value])


def is_let_run(plan, table, stock, value):
    """Tell whether any value is a let run."""
    return is_whole_run(plan, value) and is_let(table, stock, value)


def shows_can(plan, trade, stock, value):
    """Tell whether any value is what can may return."""
    table = checked_table(trade, stock)
    if is_said(value, "run"):
        return is_let_run(plan, table, stock, value[1])
    return is_said(value, "stuck") and are_stuck(plan, table, stock, value[1])


def beginnings_to(reached):
    """Return any let beginning for each reached lot, by what reached_ways tells."""
    found = {(): ()}
    for lot in reached:
        for task in reached[lot]:
            found[grown(lot, task)] = found[lot] + (task,)
    return found


def never(plan, trade, stock):
    """Return whether no let beginning is stuck, or else any that is."""
    reached = reached_ways(ways_of(plan), checked_table(trade, stock), stock)
    stuck = [lot for lot in reached if not reached[lot] and lot not in plan.choices]
    return ("stuck", beginnings_to(reached)[stuck[0]]) if stuck else ("never",)


def shows_never(plan, trade, stock, value):
    """Tell whether any value is what never may return."""
    table = checked_table(trade, stock)
    if not is_said(value, "stuck"):
        return value == ("never",) == never(plan, trade, stock)
    done = value[1]
    if not is_beginning(plan, done) or is_over(plan, done) or not is_let(table, stock, done):
        return False
    level = level_of(table, stock, done)
    return all([need_of(table, task) > level for task in plan.next(done)])


def stuck_stocks(plan, table):
    """Return the list of (least, greatest) stock at which one gets stuck behind one lot."""
    ways = ways_of(plan)
    firsts = firsts_of(ways, table)
    found = []
    for lot in ways:
        if ways[lot]:
            wanted = min([need_of(table, task) for task in ways[lot]]) - level_of(table, 0, lot)
            if firsts[lot] < wanted:
                found.append((firsts[lot], wanted - 1))
    return found


def sure_stocks(plan, trade):
    """Return the stretches of all stocks at which no let beginning is stuck."""
    stretches = []
    sure = 0
    for least, greatest in sorted(stuck_stocks(plan, trade_table(trade))):
        if sure < least:
            stretches.append((sure, least - 1))
        sure = max(sure, greatest + 1)
    return (*stretches, (sure, None))


def forced(plan, trade, stock):
    """Return each two tasks that some let run has, one ahead of other whenever both are done."""
    table = checked_table(trade, stock)
    safe = safe_ways(ways_of(plan), table, stock)
    if not safe:
        raise NoRun(reached_for(plan, table, stock))
    ahead = {}
    for lot in safe:
        for task in safe[lot]:
            for one in lot:
                ahead[(one, task)] = True
    return tuple(sorted([(one, other) for one, other in ahead if (other, one) not in ahead]))
