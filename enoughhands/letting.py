"""Which lots are let, reached and safe at a stock.

Here ways tell what comes next behind each lot (paths.py), and a table tells the step
(need, net) of each task (trades.py).
"""

from enoughhands.paths import grown
from enoughhands.trades import steps_for


def need_of(table, task):
    """Return the need of this task."""
    return table.get(task, (0, 0))[0]


def level_of(table, stock, lot):
    """Return the level of a lot: the stock and the nets of its tasks together."""
    return stock + sum([gain for need, gain in steps_for(table, lot)])


def lows_of(ways, table):
    """Return for each lot the least level behind it at which all that is left can be done."""
    lows = {}
    for lot in reversed(list(ways)):
        wanted = []
        for task in ways[lot]:
            need, gain = table.get(task, (0, 0))
            wanted.append(max(need, lows[grown(lot, task)] - gain))
        lows[lot] = min(wanted) if wanted else 0
    return lows


def firsts_of(ways, table):
    """Return for each lot the least stock, from 0 on, at which it is reached."""
    firsts = {(): 0}
    for lot in ways:
        gained = level_of(table, 0, lot)
        for task in ways[lot]:
            stock = max(firsts[lot], need_of(table, task) - gained)
            wider = grown(lot, task)
            firsts[wider] = min(stock, firsts.get(wider, stock))
    return firsts


def reached_ways(ways, table, stock):
    """Return each reached lot with the lot of the tasks that are open behind it."""
    seen = {(): True}
    reached = {}
    for lot in ways:
        if lot in seen:
            level = level_of(table, stock, lot)
            reached[lot] = tuple([task for task in ways[lot] if need_of(table, task) <= level])
            for task in reached[lot]:
                seen[grown(lot, task)] = True
    return reached


def safe_ways(ways, table, stock):
    """Return each safe lot with the lot of the open tasks that lead to a safe lot."""
    lows = lows_of(ways, table)
    reached = reached_ways(ways, table, stock)
    safe = {lot: True for lot in reached if lows[lot] <= level_of(table, stock, lot)}
    return {lot: tuple([task for task in reached[lot] if grown(lot, task) in safe]) for lot in safe}


def run_behind(safe, lot):
    """Return the tasks that follow if the first task is taken behind each lot from this one on."""
    at = lot
    run = ()
    while safe[at]:
        task = safe[at][0]
        at = grown(at, task)
        run = (*run, task)
    return run


def run_along(safe):
    """Return the run that takes the first task behind each lot, by what safe_ways tells."""
    return run_behind(safe, ())


def lets_behind(ways, table, stock):
    """Return for each lot in how many sequences all that is left is let behind it."""
    many = {}
    for lot in reversed(list(ways)):
        level = level_of(table, stock, lot)
        later = [many[grown(lot, task)] for task in ways[lot] if need_of(table, task) <= level]
        many[lot] = sum(later) if ways[lot] else 1
    return many
