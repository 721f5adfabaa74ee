"""Offers: what could be changed of works, each at its price."""

from enoughhands.checks import ascends, is_integer, is_name
from enoughhands.errors import BadOffers
from enoughhands.lines import MOST_PEOPLE, MOST_TASKS, may_line
from enoughhands.trades import MOST_NEED, MOST_STOCK, trade_table
from enoughhands.works import Works

MOST_OFFERS = 5
MOST_PRICE = 9
# How many words an offer of each kind has.
SIZES = {"stock": 3, "need": 4, "gain": 4, "may": 4, "hire": 4, "duty": 3}


def is_priced(value):
    """Tell whether any value is a tuple of a kind of offer, as many words as it has, the last one a price."""
    if not isinstance(value, tuple) or not value or not isinstance(value[0], str):
        return False
    if len(value) != SIZES.get(value[0], 0):
        return False
    return is_integer(value[-1]) and 1 <= value[-1] <= MOST_PRICE


def changes_task(works, offer):
    """Tell whether this is an offer of a lesser need or a greater net, but for its price."""
    task, more = offer[1], offer[2]
    table = trade_table(works.trade)
    if task not in list(table) or not is_integer(more) or more < 1:
        return False
    need, gain = table[task]
    return more <= need if offer[0] == "need" else need + gain + more <= MOST_NEED


def is_offer(works, value):
    """Tell whether any value is an offer for the works."""
    if not is_priced(value):
        return False
    word, told = value[0], value[1]
    if word == "stock":
        return is_integer(told) and 1 <= told <= MOST_STOCK - works.stock
    if word == "duty":
        return is_integer(told) and 0 <= told < len(works.crew.duties)
    if word == "may":
        return told in works.crew and value[2] in works.plan and value[2] not in works.crew.may(told)
    if word == "hire":
        return is_name(told) and told not in works.crew and value[2] in works.plan
    return changes_task(works, value)


def subject_of(offer):
    """Return what an offer is about: there is at most one offer of each."""
    if offer[0] == "stock":
        return offer[:1]
    return offer[:3] if offer[0] == "may" else offer[:2]


def are_held(crew, offers):
    """Tell whether the crew can have all people of these offers, and they all tasks."""
    hired = [offer for offer in offers if offer[0] == "hire"]
    if len(crew) + len(hired) > MOST_PEOPLE:
        return False
    return all([len(crew.mays[person]) + len(tasks_more(offers, person)) <= MOST_TASKS for person in crew.people])


def tasks_more(offers, person):
    """Return the list of the tasks that this person may do besides by these offers."""
    return [offer[2] for offer in offers if offer[0] == "may" and offer[1] == person]


def are_offers(works, value):
    """Tell whether any value is offers for the works."""
    if not isinstance(value, tuple) or not 1 <= len(value) <= MOST_OFFERS:
        return False
    if not all([is_offer(works, offer) for offer in value]) or not ascends(value):
        return False
    if len(set([subject_of(offer) for offer in value])) < len(value):
        return False
    return are_held(works.crew, value)


def check_offers(works, offers):
    """Raise the error for what are no offers."""
    if not are_offers(works, offers):
        raise BadOffers(offers)


def told_more(offers, word, task):
    """Return by how much the offers of this kind change this task."""
    return sum([offer[2] for offer in offers if offer[:2] == (word, task)])


def task_line(works, offers, task):
    """Return the line of this task by the offers."""
    need, gain = trade_table(works.trade)[task]
    less = told_more(offers, "need", task)
    more = told_more(offers, "gain", task)
    return " ".join(["task", task, str(need - less), str(gain + less + more)])


def changed_by(works, offers):
    """Return the Works by all of these offers, of which there may be none."""
    lines = works.text.split("\n")
    ahead = 2 + len(works.trade)
    stock = works.stock + sum([offer[1] for offer in offers if offer[0] == "stock"])
    rows = ["stock " + str(stock), lines[1]]
    for line in lines[2:ahead]:
        rows.append(task_line(works, offers, line.split(" ")[1]))
    for person in works.crew.people:
        rows.append(may_line(person, list(works.crew.mays[person]) + tasks_more(offers, person)))
    rows.extend([may_line(offer[1], offer[2:3]) for offer in offers if offer[0] == "hire"])
    dropped = [offer[1] for offer in offers if offer[0] == "duty"]
    duties = lines[ahead + len(works.crew):]
    return Works("\n".join(rows + [line for at, line in enumerate(duties) if at not in dropped]))


def changed(works, offers):
    """Return the Works by all of these offers."""
    check_offers(works, offers)
    return changed_by(works, offers)
