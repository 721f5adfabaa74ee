"""Whether tasks can be dealt, to how few people, and who may or must take part."""

from enoughhands.checks import is_integer, is_row_of, is_said
from enoughhands.duties import keeps
from enoughhands.hands import are_hands, check_most, hands_for, told_layers
from enoughhands.marks import lot_of
from enoughhands.takings import all_marks, bounds_for, check_told, deal_to, few_bounds, full_stands, good_steps
from enoughhands.takings import layers_of


def is_deal_of(crew, tasks, given, away, value):
    """Tell whether any value is a deal of the tasks."""
    if not keeps(crew, value) or tuple([task for task, person in value]) != tasks:
        return False
    if not all([pair in value for pair in given]):
        return False
    return all([person not in away or (task, person) in given for task, person in value])


def people_in(deal):
    """Return how many people do something by this deal."""
    return len(set([person for task, person in deal]))


def dealt_to(crew, tasks, given, away, most):
    """Return any deal of the tasks to at most so many people, or hands for these."""
    bounds = bounds_for(crew, tasks, most)
    layers = layers_of(all_marks(crew, tasks, given, away), bounds)
    full = full_stands(tasks, bounds, layers)
    if full:
        return ("deal", deal_to(crew, tasks, layers, full[0]))
    return ("none", told_layers(tasks, bounds, layers))


def dealt(crew, tasks, given, away, most):
    """Return any deal of the tasks to at most so many people, or hands for these."""
    check_told(crew, tasks, given, away)
    check_most(most)
    return dealt_to(crew, tasks, given, away, most)


def shows_dealt(crew, tasks, given, away, most, value):
    """Tell whether any value is what dealt may return."""
    check_told(crew, tasks, given, away)
    check_most(most)
    if is_said(value, "deal"):
        return is_deal_of(crew, tasks, given, away, value[1]) and people_in(value[1]) <= most
    return is_said(value, "none") and are_hands(crew, tasks, given, away, most, value[1])


def fewest_for(crew, tasks, given, away):
    """Return the least number of people, with any such deal, and hands for one less; or hands for all."""
    told = dealt_to(crew, tasks, given, away, len(crew))
    if told[0] == "none":
        return told
    # The deals that full_stands tells first have the fewest people.
    number = people_in(told[1])
    hands = hands_for(crew, tasks, given, away, number - 1) if number else ()
    return ("people", number, told[1], hands)


def fewest(crew, tasks, given, away):
    """Return the least number of people, with any such deal, and hands for one less; or hands for all."""
    check_told(crew, tasks, given, away)
    return fewest_for(crew, tasks, given, away)


def is_fewest(crew, tasks, given, away, number, deal, hands):
    """Tell whether these are the least number of people, such a deal, and hands for one less."""
    if not is_integer(number) or not is_deal_of(crew, tasks, given, away, deal) or people_in(deal) != number:
        return False
    if number == 0:
        return hands == ()
    return are_hands(crew, tasks, given, away, number - 1, hands)


def shows_fewest(crew, tasks, given, away, value):
    """Tell whether any value is what fewest may return."""
    check_told(crew, tasks, given, away)
    if is_row_of(value, 4) and value[0] == "people":
        return is_fewest(crew, tasks, given, away, value[1], value[2], value[3])
    return is_said(value, "none") and are_hands(crew, tasks, given, away, len(crew), value[1])


def used_marks(crew, tasks, given, away):
    """Return for each person the marks of all shares of which some deal is put together."""
    steps = good_steps(tasks, all_marks(crew, tasks, given, away), few_bounds(crew, tasks))
    return [list({mark: True for stand, mark, later in found}) for found in steps]


def able(crew, tasks, given, away):
    """Return the ascending tuple of all pairs that stand in some deal of the tasks."""
    check_told(crew, tasks, given, away)
    pairs = {}
    for person, marks in zip(crew.people, used_marks(crew, tasks, given, away)):
        for mark in marks:
            for task in lot_of(tasks, mark):
                pairs[(task, person)] = True
    return tuple(sorted(list(pairs)))


def needed(crew, tasks, given, away):
    """Return the ascending tuple of all people who do some task in each deal of the tasks."""
    check_told(crew, tasks, given, away)
    used = used_marks(crew, tasks, given, away)
    return tuple(sorted([person for person, marks in zip(crew.people, used) if marks and 0 not in marks]))
