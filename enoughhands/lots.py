"""Lots at a stock: which are reached, which are safe, and where one gets into a trap."""

from enoughhands.checks import ascends, is_lot
from enoughhands.errors import BadDone, NoRun, NotLet
from enoughhands.going import is_beginning
from enoughhands.letting import level_of, lows_of, need_of, reached_ways, safe_ways
from enoughhands.paths import grown, ways_of
from enoughhands.plans import Plan
from enoughhands.texts import rest_text
from enoughhands.trades import check_stock, levels_from, steps_for, trade_table


def checked_table(trade, stock):
    """Return the step of each task of the trade; the errors for the trade and the stock."""
    table = trade_table(trade)
    check_stock(stock)
    return table


def reached_for(plan, table, stock):
    """Return the ascending tuple of the reached lots."""
    return tuple(sorted(list(reached_ways(ways_of(plan), table, stock))))


def reached_lots(plan, trade, stock):
    """Return the ascending tuple of the lots of the tasks of all let beginnings."""
    return reached_for(plan, checked_table(trade, stock), stock)


def safe_lots(plan, trade, stock):
    """Return the ascending tuple of the lots of the tasks of all beginnings of let runs."""
    return tuple(sorted(list(safe_ways(ways_of(plan), checked_table(trade, stock), stock))))


def guide(plan, trade, stock):
    """Return each safe lot with the lot of the open tasks that lead to a safe lot again."""
    safe = safe_ways(ways_of(plan), checked_table(trade, stock), stock)
    return tuple(sorted([(lot, safe[lot]) for lot in safe]))


def traps(plan, trade, stock):
    """Return each safe lot with each open task that leads to a lot that is not safe."""
    table = checked_table(trade, stock)
    ways = ways_of(plan)
    safe = safe_ways(ways, table, stock)
    reached = reached_ways(ways, table, stock)
    return tuple(sorted([
        (lot, task) for lot in safe for task in reached[lot] if grown(lot, task) not in safe
    ]))


def room(plan, trade, stock, done):
    """Return by how much the level behind done could be less, and the rest still be let."""
    table = checked_table(trade, stock)
    if not is_beginning(plan, done):
        raise BadDone(done)
    levels = levels_from(stock, steps_for(table, done))
    if len(levels) <= len(done):
        raise NotLet(len(levels) - 1)
    text = rest_text(plan, done)
    if text is None:
        return levels[-1]
    rest = Plan(text)
    lowest = lows_of(ways_of(rest), table)[()]
    if lowest > levels[-1]:
        raise NoRun(reached_for(rest, table, levels[-1]))
    return levels[-1] - lowest


def are_closed(ways, table, stock, value):
    """Tell whether any value is closed lots."""
    if not isinstance(value, tuple) or not all([is_lot(lot) and lot in ways for lot in value]):
        return False
    if not ascends(value) or () not in value:
        return False
    kept = {lot: True for lot in value}
    for lot in value:
        level = level_of(table, stock, lot)
        for task in ways[lot]:
            if grown(lot, task) not in kept and need_of(table, task) <= level:
                return False
    return True


def is_closed(plan, trade, stock, value):
    """Tell whether any value is closed lots."""
    return are_closed(ways_of(plan), checked_table(trade, stock), stock, value)
