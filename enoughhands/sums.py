"""Rows of plans, reckoned by the rows of their parts."""

from enoughhands.checks import ascends, is_name, is_row_of
from enoughhands.errors import BadRows
from enoughhands.rows import check_plain, check_row, is_plan_row, plain_steps, row_for
from enoughhands.stairs import both_stairs, last_pair


def then_rows(one, other):
    """Return the row of two plans one behind the other, by what surely are rows."""
    return row_for(plain_steps(one) + plain_steps(other))


def beside_rows(one, other):
    """Return the row of two plans beside one another, by what surely are rows."""
    ahead = both_stairs(one[2], other[2])
    behind = both_stairs(one[3], other[3])
    together = one[1] + other[1]
    # Each stays at its top, as it has to, while the other one is at its own top.
    lowest = max(
        last_pair(ahead)[0],
        one[0] - last_pair(other[2])[1],
        other[0] - last_pair(one[2])[1],
        last_pair(behind)[0] - together,
    )
    return (max(0, lowest), together, ahead, behind)


def then_row(one, other):
    """Return the row of the plan then of two plans with these rows."""
    check_row(one)
    check_row(other)
    return then_rows(one, other)


def beside_row(one, other):
    """Return the row of the plan beside of two plans with these rows."""
    check_row(one)
    check_row(other)
    return beside_rows(one, other)


def are_rows_of(plan, value):
    """Tell whether any value is an ascending tuple of one (task, row) for each task."""
    if not is_row_of(value, len(plan)):
        return False
    for pair in value:
        if not is_row_of(pair, 2) or not is_name(pair[0]) or not is_plan_row(pair[1]):
            return False
    names = [task for task, row in value]
    return ascends(names) and all([task in plan for task in names])


def row_of_plan(plan, table):
    """Return the row of a plain plan, of which the table tells the rows of the tasks."""
    if plan.kind == "task":
        return table[plan.text]
    rows = [row_of_plan(part, table) for part in plan.parts]
    found = rows[0]
    for later in rows[1:]:
        found = then_rows(found, later) if plan.kind == "then" else beside_rows(found, later)
    return found


def row_by(plan, rows):
    """Return the row of a plain plan, by the rows of what stands for its tasks."""
    check_plain(plan)
    if not are_rows_of(plan, rows):
        raise BadRows(rows)
    return row_of_plan(plan, {task: row for task, row in rows})
