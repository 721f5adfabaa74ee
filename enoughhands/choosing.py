"""The cheapest offers by which all can be done, and those that cannot be left out."""

from enoughhands.checks import is_just, is_row_of, is_said
from enoughhands.jobs import job_of
from enoughhands.offers import changed_by, check_offers
from enoughhands.openings import are_papers, finish_for, has_rests, is_rest
from enoughhands.weaving import lots_within


def price_of(choice):
    """Return the sum of the prices of these offers."""
    return sum([offer[-1] for offer in choice])


def choices_by_price(offers):
    """Return the list of all choices of offers, in sequence."""
    return sorted(lots_within(offers), key=lambda choice: (price_of(choice), len(choice), choice))


def job_by(works, choice):
    """Return what the works ask for by this choice of offers."""
    return job_of(changed_by(works, choice))


def cheapest(works, offers):
    """Return the first choice of offers that serves, with papers for those ahead of it, or papers for all."""
    check_offers(works, offers)
    reasons = []
    for choice in choices_by_price(offers):
        told = finish_for(job_by(works, choice), (), ())
        if told[0] == "rest":
            return ("choice", price_of(choice), choice, told[1], tuple(reasons))
        reasons.append((choice, told[1]))
    return ("none", tuple(reasons))


def is_reason(works, choice, value):
    """Tell whether any value is this choice of offers with papers why it does not serve."""
    if not is_row_of(value, 2) or not is_just(value[0], choice):
        return False
    return are_papers(job_by(works, choice), (), (), value[1])


def are_reasons(works, choices, value):
    """Tell whether any value is reasons for all of these choices of offers."""
    if not is_row_of(value, len(choices)):
        return False
    return all([is_reason(works, choice, reason) for choice, reason in zip(choices, value)])


def shows_cheapest(works, offers, value):
    """Tell whether any value is what cheapest may return."""
    check_offers(works, offers)
    choices = choices_by_price(offers)
    if is_said(value, "none"):
        return are_reasons(works, choices, value[1])
    if not is_row_of(value, 5) or value[0] != "choice" or not any([is_just(value[2], one) for one in choices]):
        return False
    choice = value[2]
    if not is_just(value[1], price_of(choice)) or not is_rest(job_by(works, choice), (), (), value[3]):
        return False
    return are_reasons(works, choices[:choices.index(choice)], value[4])


def vital(works, offers):
    """Return the offers that each choice which serves has, all of them if none serves."""
    check_offers(works, offers)
    # What serves serves with others, too: so an offer is left out by some choice
    # that serves just if all others together serve.
    return tuple([
        offer for offer in offers
        if not has_rests(job_by(works, [other for other in offers if other != offer]), (), ())
    ])
