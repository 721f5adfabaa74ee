"""Which plan is no worse than another one, whatever goes on beside it."""

from enoughhands.checks import is_row_of
from enoughhands.errors import BadStep
from enoughhands.rows import best_row, check_row, row_for
from enoughhands.stairs import check_steps, gain_for, is_step, lower_base
from enoughhands.sums import beside_rows


def least_beside(row, steps):
    """Return the least level at which what has this row comes through beside these steps."""
    return beside_rows(row, row_for(steps))[0]


def first_beside(plan, trade, need, net):
    """Return the least stock of the plan with one further task put in anywhere."""
    row = best_row(plan, trade)
    if not is_step((need, net)):
        raise BadStep((need, net))
    return least_beside(row, ((need, net),))


def first_with(row, steps):
    """Return the least level at which steps of this row come through beside these steps."""
    check_row(row)
    check_steps(steps)
    return least_beside(row, steps)


def end_base(one, other):
    """Return the least base that shows one to be worse towards the end, None if there is none.

    What tells is the greatest level that still leads to the end from this base.
    """
    if one[1] < other[1]:
        return -other[1]
    bases = [base - other[1] for base, gain in other[3]]
    lower = [base for base in bases if end_level(one, base) < end_level(other, base)]
    return lower[0] if lower else None


def end_level(row, base):
    """Return the greatest level from which it can come to its end, which it leaves at base and net."""
    end = base + row[1]
    return end + gain_for(row[3], end)


def worse_step(one, other):
    """Return a step beside which one needs more than other, None if there is none."""
    if one[0] > other[0]:
        return (0, 0)
    base = lower_base(one[2], other[2])
    if base is not None:
        # Only other climbs as high as the step asks; whoever has done it has enough.
        return (base + gain_for(other[2], base), other[0])
    base = end_base(one, other)
    if base is None:
        return None
    # Ahead of the step all has enough; behind it only other still comes to its end.
    more = max(0, other[0] - base)
    return (end_level(other, base) + more, -more)


def row_within(one, other):
    """Return None if one never needs more than other, or any step beside which it does."""
    check_row(one)
    check_row(other)
    return worse_step(one, other)


def shows_row_within(one, other, value):
    """Tell whether any value is what row_within may return."""
    step = row_within(one, other)
    if value is None:
        return step is None
    return is_step(value) and least_beside(one, (value,)) > least_beside(other, (value,))


def within(one, trade, other, its):
    """Return whether one is within other, or else any step that shows that it is not."""
    step = worse_step(best_row(one, trade), best_row(other, its))
    return ("within",) if step is None else ("more", *step)


def shows_within(one, trade, other, its, value):
    """Tell whether any value is what within may return."""
    row, its_row = best_row(one, trade), best_row(other, its)
    if is_row_of(value, 3) and value[0] == "more" and is_step(value[1:]):
        return least_beside(row, (value[1:],)) > least_beside(its_row, (value[1:],))
    return value == ("within",) and worse_step(row, its_row) is None


def alike(one, trade, other, its):
    """Return whether each is within the other one, or else any step that tells them apart."""
    row, its_row = best_row(one, trade), best_row(other, its)
    step = worse_step(row, its_row)
    if step is None:
        step = worse_step(its_row, row)
    return ("alike",) if step is None else ("parts", *step)


def shows_alike(one, trade, other, its, value):
    """Tell whether any value is what alike may return."""
    row, its_row = best_row(one, trade), best_row(other, its)
    if is_row_of(value, 3) and value[0] == "parts" and is_step(value[1:]):
        return least_beside(row, (value[1:],)) != least_beside(its_row, (value[1:],))
    return value == ("alike",) and row == its_row
