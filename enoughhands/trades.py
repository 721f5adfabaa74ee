"""Trades: what tasks need of the stock, and what they take from it or give to it."""

from enoughhands.checks import are_names, ascends, is_integer, is_name, is_row_of
from enoughhands.errors import BadStock, BadTasks, BadTrade

MOST_LINES = 16
MOST_NEED = 9999
MOST_STOCK = 99999


def is_line(value):
    """Tell whether any value is (task, need, net) as a trade may have it."""
    if not is_row_of(value, 3) or not is_name(value[0]):
        return False
    if not is_integer(value[1]) or not is_integer(value[2]):
        return False
    return 0 <= value[1] <= MOST_NEED and 0 <= value[1] + value[2] <= MOST_NEED


def is_trade(value):
    """Tell whether any value is a trade."""
    if not isinstance(value, tuple) or len(value) > MOST_LINES:
        return False
    return all([is_line(line) for line in value]) and ascends([line[0] for line in value])


def is_stock(value):
    """Tell whether any value is a stock."""
    return is_integer(value) and 0 <= value <= MOST_STOCK


def trade_table(trade):
    """Return the step (need, net) of each task of which the trade tells."""
    if not is_trade(trade):
        raise BadTrade(trade)
    return {task: (need, gain) for task, need, gain in trade}


def check_stock(stock):
    """Raise the error for what is no stock."""
    if not is_stock(stock):
        raise BadStock(stock)


def steps_for(table, tasks):
    """Return the list of the steps (need, net) of these tasks in turn."""
    return [table.get(task, (0, 0)) for task in tasks]


def checked_steps(trade, tasks):
    """Return the list of the steps that tasks are; the errors for trade and for tasks."""
    table = trade_table(trade)
    if not are_names(tasks) or len(set(tasks)) < len(tasks):
        raise BadTasks(tasks)
    return steps_for(table, tasks)


def levels_from(stock, steps):
    """Return the list of the levels from this one on, up to the first step that is not let."""
    found = [stock]
    for need, gain in steps:
        if found[-1] < need:
            return found
        found.append(found[-1] + gain)
    return found


def least_for(steps):
    """Return the least level, from 0 on, at which these steps are let."""
    lowest = 0
    risen = 0
    for need, gain in steps:
        lowest = max(lowest, need - risen)
        risen += gain
    return lowest


def levels(trade, stock, tasks):
    """Return the stock and the levels behind the tasks, as far as they are let."""
    trade_table(trade)
    check_stock(stock)
    return tuple(levels_from(stock, checked_steps(trade, tasks)))


def least(trade, tasks):
    """Return the least level, from 0 on, at which the tasks are let in turn."""
    return least_for(checked_steps(trade, tasks))


def net(trade, tasks):
    """Return the sum of the nets of the tasks."""
    return sum([gain for need, gain in checked_steps(trade, tasks)])


def told_back(trade):
    """Return the trade by which what was let is let backwards."""
    trade_table(trade)
    return tuple([(task, need + gain, -gain) for task, need, gain in trade])
