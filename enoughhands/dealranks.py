"""Deals one by one: how many there are, and each by its number."""

from enoughhands.checks import is_integer
from enoughhands.dealing import is_deal_of
from enoughhands.errors import BadNumber, NoDeal, TooMany
from enoughhands.marks import lot_of, mark_of
from enoughhands.takings import all_marks, check_told, counts_in, few_bounds, good_steps, growth, is_too_great, mark_in

MOST_TOLD = 200


def ways_on(ways, marks, bounds):
    """Return for each stand to which these lead in how many ways, by how many ways lead to these."""
    grown = {mark: growth(bounds, mark) for mark in marks}
    found = {}
    for stand in ways:
        for mark in grown:
            if not stand & mark:
                later = stand + grown[mark]
                found[later] = found.get(later, 0) + ways[stand]
    return {stand: found[stand] for stand in found if not is_too_great(bounds, counts_in(bounds, stand))}


def deals_for(crew, tasks, given, away):
    """Return how many deals of the tasks there are."""
    bounds = few_bounds(crew, tasks)
    ways = {0: 1}
    for marks in all_marks(crew, tasks, given, away):
        ways = ways_on(ways, marks, bounds)
    full = mark_of(tasks, tasks)
    return sum([ways[stand] for stand in ways if mark_in(stand) == full])


def deals(crew, tasks, given, away):
    """Return how many deals of the tasks there are."""
    check_told(crew, tasks, given, away)
    return deals_for(crew, tasks, given, away)


def every_deal(crew, tasks, given, away):
    """Return all deals of the tasks, in sequence."""
    if deals(crew, tasks, given, away) > MOST_TOLD:
        raise TooMany(MOST_TOLD)
    told = {0: [()]}
    steps = good_steps(tasks, all_marks(crew, tasks, given, away), few_bounds(crew, tasks))
    for person, found in zip(crew.people, steps):
        wider = {}
        for stand, mark, later in found:
            pairs = tuple([(task, person) for task in lot_of(tasks, mark)])
            wider.setdefault(later, []).extend([deal + pairs for deal in told[stand]])
        told = wider
    return tuple(sorted([tuple(sorted(deal)) for stand in told for deal in told[stand]]))


def with_pair(given, pair):
    """Return the deal with this pair, too."""
    return given if pair in given else tuple(sorted([*given, pair]))


def people_for(crew, given, away, task):
    """Return the ascending list of all people who could take this task, what they may do aside."""
    taken = [person for one, person in given if one == task]
    return taken if taken else [person for person in sorted(list(crew.people)) if person not in away]


def deal_at(crew, tasks, given, away, number):
    """Return the deal of the tasks with this number."""
    ahead = number
    told = given
    for task in tasks:
        for person in people_for(crew, told, away, task):
            more = with_pair(told, (task, person))
            many = deals_for(crew, tasks, more, away)
            if ahead < many:
                told = more
                break
            ahead -= many
    return told


def nth_deal(crew, tasks, given, away, number):
    """Return the deal of the tasks with this number."""
    many = deals(crew, tasks, given, away)
    if not is_integer(number) or not 0 <= number < many:
        raise BadNumber(number)
    return deal_at(crew, tasks, given, away, number)


def number_of_deal(crew, tasks, given, away, deal):
    """Return the number of this deal of the tasks."""
    check_told(crew, tasks, given, away)
    if not is_deal_of(crew, tasks, given, away, deal):
        raise NoDeal(deal)
    number = 0
    told = given
    for pair in deal:
        for person in people_for(crew, told, away, pair[0]):
            if person < pair[1]:
                number += deals_for(crew, tasks, with_pair(told, (pair[0], person)), away)
        told = with_pair(told, pair)
    return number
