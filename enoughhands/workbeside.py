"""Works beside one another: the whole days that they have and share.

The whole days by one choice are all let runs of it with all its deals. Which runs are let
is told by what safe_ways tells of the choice: empty if there is none.
"""

from enoughhands.bothkeep import Both, deal_apart
from enoughhands.checks import is_integer, is_row_of, is_said
from enoughhands.counting import book_of, rests_for
from enoughhands.crewbeside import common
from enoughhands.dealing import dealt_to
from enoughhands.dealranks import deals_for
from enoughhands.errors import Apart, OtherWorks
from enoughhands.going import is_over
from enoughhands.jobs import day_of, done_by, job_of, wrong_in
from enoughhands.letting import level_of, need_of, run_along, run_behind, safe_ways
from enoughhands.paths import grown, ways_of
from enoughhands.trades import trade_table
from enoughhands.works import Works


def check_works(other):
    """Raise the error for what are no works."""
    if not isinstance(other, Works):
        raise OtherWorks(other)


def is_whole(works, value):
    """Tell whether any value is a whole day."""
    job = job_of(works)
    return not wrong_in(job, value) and is_over(job.plan, done_by(value))


def safe_by(works, choice):
    """Return what safe_ways tells of this choice, empty if it is none of the plan."""
    if choice not in works.plan.choices:
        return {}
    return safe_ways(ways_of(works.plan.chosen(choice)), trade_table(works.trade), works.stock)


def any_deal(works, choice):
    """Return any deal of this choice, None if there is none."""
    told = dealt_to(works.crew, choice, (), (), len(works.crew))
    return told[1] if told[0] == "deal" else None


def run_apart(safe, other_safe):
    """Return any run that is let by the first and not by the other, None if there is none."""
    if not other_safe:
        return run_along(safe)
    runs = {(): ()}
    # To each lot all ways lead through lots ahead of it, which the other one has, too.
    for lot in safe:
        for task in safe[lot]:
            run = runs[lot] + (task,)
            if task not in other_safe[lot]:
                return run + run_behind(safe, grown(lot, task))
            runs[grown(lot, task)] = run
    return None


def day_apart_by(one, other, choice):
    """Return any whole day of one by this choice that is none of other, None if there is none."""
    safe = safe_by(one, choice)
    deal = any_deal(one, choice)
    if not safe or deal is None:
        return None
    run = run_apart(safe, safe_by(other, choice))
    if run is not None:
        return day_of(run, deal)
    deal = deal_apart(one.crew, other.crew, choice)
    return None if deal is None else day_of(run_along(safe), deal)


def day_apart(one, other):
    """Return any whole day of one that is none of other, None if there is none."""
    for choice in one.plan.choices:
        day = day_apart_by(one, other, choice)
        if day is not None:
            return day
    return None


def within_days(one, other):
    """Return whether each whole day of one is one of other, or else any that is none."""
    check_works(other)
    day = day_apart(one, other)
    return ("within",) if day is None else ("more", day)


def shows_within_days(one, other, value):
    """Tell whether any value is what within_days may return."""
    check_works(other)
    if is_said(value, "more"):
        return is_whole(one, value[1]) and not is_whole(other, value[1])
    return value == ("within",) and day_apart(one, other) is None


def alike_days(one, other):
    """Return whether both have the same whole days, or else any day of just one, and of which one."""
    check_works(other)
    for number, (some, others) in enumerate(((one, other), (other, one))):
        day = day_apart(some, others)
        if day is not None:
            return ("parts", day, number)
    return ("alike",)


def shows_alike_days(one, other, value):
    """Tell whether any value is what alike_days may return."""
    check_works(other)
    if value == ("alike",):
        return day_apart(one, other) is None and day_apart(other, one) is None
    if not is_row_of(value, 3) or value[0] != "parts" or not is_integer(value[2]) or value[2] not in (0, 1):
        return False
    some, others = (other, one) if value[2] else (one, other)
    return is_whole(some, value[1]) and not is_whole(others, value[1])


def whole_days(works):
    """Return how many whole days there are."""
    job = job_of(works)
    return rests_for(job, book_of(job), (), ())


def runs_shared(safe, other_safe, choice):
    """Return how many runs of this choice are let by both."""
    many = {choice: 1}
    for lot in reversed(list(safe)):
        if lot in other_safe and lot != choice:
            many[lot] = sum([many[grown(lot, task)] for task in safe[lot] if task in other_safe[lot]])
    return many.get((), 0)


def shared_days(one, other):
    """Return how many days are whole days of both."""
    check_works(other)
    both = Both(one.crew, other.crew)
    number = 0
    for choice in one.plan.choices:
        runs = runs_shared(safe_by(one, choice), safe_by(other, choice), choice)
        number += runs * deals_for(both, choice, (), ())
    return number


def both_works(one, other):
    """Return the Works of which just those days are whole that are whole days of both."""
    check_works(other)
    if one.plan != other.plan or one.trade != other.trade:
        raise Apart(None)
    crew = common(one.crew, other.crew)
    lines = one.text.split("\n")[1:2 + len(one.trade)]
    return Works("\n".join(["stock " + str(min(one.stock, other.stock)), *lines, crew.text]))


def runs_to(safe):
    """Return for each of these lots any way to it."""
    runs = {(): ()}
    for lot in safe:
        for task in safe[lot]:
            runs[grown(lot, task)] = runs[lot] + (task,)
    return runs


def tightest(works, choice):
    """Return (stock, run): the least stock with which all let runs of this choice are let, and one that wants it."""
    table = trade_table(works.trade)
    safe = safe_by(works, choice)
    runs = runs_to(safe)
    found = (0, None)
    for lot in safe:
        for task in safe[lot]:
            stock = need_of(table, task) - level_of(table, 0, lot)
            if stock > found[0]:
                found = (stock, runs[lot] + (task,) + run_behind(safe, grown(lot, task)))
    return found


def idle_stock(works):
    """Return the least stock with which the works have the same whole days, and one that wants it."""
    found = (0, None)
    for choice in works.plan.choices:
        stock, run = tightest(works, choice)
        deal = any_deal(works, choice)
        if stock > found[0] and deal is not None:
            found = (stock, day_of(run, deal))
    return found
