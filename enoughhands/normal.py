"""Plans that have the same runs, or all of another one's."""

from enoughhands.checks import is_said
from enoughhands.going import is_whole_run
from enoughhands.paths import late_run
from enoughhands.plans import Plan
from enoughhands.weaving import table_of, woven


def normal(plan):
    """Return the one Plan of the same runs that is written in the normal way."""
    return Plan(woven(sorted(list(plan.tasks)), table_of(plan))[0])


def run_apart(one, other):
    """Return any run of one that is none of other, None if there is none."""
    table, its = table_of(one), table_of(other)
    for choice in one.choices:
        if choice not in other.choices:
            return late_run(one.chosen(choice), None)
        for late in choice:
            # If other binds late ahead of some task, and one does not, this task comes
            # ahead of late in a run of one that puts late off as long as it can.
            freed = [task for task in choice if task != late and its[(late, task)] == "ahead"]
            if any([table[(late, task)] != "ahead" for task in freed]):
                return late_run(one.chosen(choice), late)
    return None


def same(one, other):
    """Return whether both have the same runs, or else any run of just one of both."""
    run = run_apart(one, other)
    if run is None:
        run = run_apart(other, one)
    return ("same",) if run is None else ("apart", run)


def shows_same(one, other, value):
    """Tell whether any value is what same may return."""
    if is_said(value, "apart"):
        return is_whole_run(one, value[1]) != is_whole_run(other, value[1])
    return value == ("same",) and normal(one) == normal(other)


def within_runs(one, other):
    """Return whether all runs of one are runs of other, or else any that is none."""
    run = run_apart(one, other)
    return ("within",) if run is None else ("more", run)


def shows_within_runs(one, other, value):
    """Tell whether any value is what within_runs may return."""
    if is_said(value, "more"):
        return is_whole_run(one, value[1]) and not is_whole_run(other, value[1])
    return value == ("within",) and run_apart(one, other) is None
