"""Crews beside one another: whether one keeps only what another one keeps."""

from enoughhands.checks import is_said
from enoughhands.crews import Crew
from enoughhands.duties import is_broken, is_kept, keeps
from enoughhands.errors import Full, Nobody
from enoughhands.lines import MOST_DUTIES, MOST_FEW, are_few, may_line
from enoughhands.weaving import lots_within


def pairs_of(crew, person):
    """Return the list of all pairs of this person that the crew lets be, duties aside."""
    return [(task, person) for task in crew.may(person)]


def with_pair(crew, deal, pair):
    """Return the list of the kept deal with this pair, too, empty if there is none."""
    more = tuple(sorted([*deal, pair]))
    return [more] if keeps(crew, more) else []


def kept_deals(crew, pools):
    """Return the list of all kept deals that have one pair of each of these pools."""
    deals = [()]
    for pool in pools:
        wider = {}
        for deal in deals:
            for pair in pool:
                for more in with_pair(crew, deal, pair):
                    wider[more] = True
        deals = list(wider)
    return deals


def pools_against(duty, crew):
    """Return the list of pools such that each least deal of the crew that breaks the duty is of some of them.

    The duty may be one of another crew.
    """
    if duty[0] == "most":
        return [[pairs_of(crew, duty[1])] * (duty[2] + 1)] if duty[1] in crew else []
    pools = {}
    for person in crew.people:
        pools[person] = [pair for pair in pairs_of(crew, person) if pair[0] in duty[-1]]
    if duty[0] == "unlike":
        return [[pools[person]] * 2 for person in crew.people]
    number = 2 if duty[0] == "same" else duty[1] + 1
    return [[pools[one] for one in some] for some in lots_within(crew.people) if len(some) == number]


def deals_breaking(crew, duty):
    """Return the list of all least deals that the crew keeps and that break the duty."""
    deals = [deal for pools in pools_against(duty, crew) for deal in kept_deals(crew, pools)]
    return [deal for deal in deals if is_broken(duty, deal)]


def deals_not_kept(one, other):
    """Return a list of deals that one keeps and other does not, empty just if there is none.

    What is left of a kept deal is kept, so only the least deals that other breaks
    are gone through: a pair that it does not let be, or just as many pairs as
    break one of its duties.
    """
    pairs = [(pair,) for person in one.people for pair in pairs_of(one, person)]
    found = [deal for deal in pairs if keeps(one, deal) and not keeps(other, deal)]
    for duty in other.duties:
        found = found if found else deals_breaking(one, duty)
    return found


def kept_within(one, other):
    """Return whether other keeps each deal that one keeps, or else any that it does not."""
    found = deals_not_kept(one, other)
    return ("more", found[0]) if found else ("within",)


def shows_kept_within(one, other, value):
    """Tell whether any value is what kept_within may return."""
    if is_said(value, "more"):
        return keeps(one, value[1]) and not keeps(other, value[1])
    return value == ("within",) and not deals_not_kept(one, other)


def kept_alike(one, other):
    """Return whether both keep the same deals, or else any deal that just one keeps."""
    found = deals_not_kept(one, other)
    found = found if found else deals_not_kept(other, one)
    return ("parts", found[0]) if found else ("alike",)


def shows_kept_alike(one, other, value):
    """Tell whether any value is what kept_alike may return."""
    if is_said(value, "parts"):
        return keeps(one, value[1]) != keeps(other, value[1])
    return value == ("alike",) and kept_alike(one, other) == ("alike",)


def idle_duties(crew):
    """Return the numbers of the duties each of which can be left out, and the same deals are kept."""
    return tuple([
        at for at, duty in enumerate(crew.duties) if not deals_breaking(crew.without_duty(at), duty)
    ])


def idle_mays(crew):
    """Return all pairs that somebody may do and that no kept deal has."""
    pairs = [pair for person in crew.people for pair in pairs_of(crew, person)]
    return tuple(sorted([pair for pair in pairs if not is_kept(crew, (pair,))]))


def common(one, other):
    """Return the Crew that keeps just the deals that both keep."""
    mays = {}
    for person in one.people:
        tasks = [task for task in one.mays[person] if person in other and task in other.may(person)]
        if tasks:
            mays[person] = tasks
    if not mays:
        raise Nobody(None)
    duties = {}
    for crew in (one, other):
        for duty, line in zip(crew.duties, crew.text.split("\n")[len(crew):]):
            if duty not in duties and (duty[0] != "most" or duty[1] in mays):
                duties[duty] = line
    if len(duties) > MOST_DUTIES:
        raise Full(MOST_DUTIES)
    if are_few(list(duties)) > MOST_FEW:
        raise Full(MOST_FEW)
    lines = [may_line(person, mays[person]) for person in mays]
    return Crew("\n".join(lines + [duties[duty] for duty in duties]))
