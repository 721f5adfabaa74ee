"""Teams: who can do a choice together, and who can be exchanged for one another."""

from enoughhands.checks import is_said
from enoughhands.dealing import dealt_to, is_deal_of, used_marks
from enoughhands.errors import BadChoice, BadPeople
from enoughhands.hands import are_hands
from enoughhands.takings import are_away
from enoughhands.weaving import least_lots, lots_within


def people_of(works):
    """Return the ascending list of all people."""
    return sorted(list(works.crew.people))


def others_than(works, people):
    """Return the ascending tuple of all people who are not among these."""
    return tuple([person for person in people_of(works) if person not in people])


def check_choice(works, choice):
    """Raise the error for what is no choice of the plan."""
    if choice not in works.plan.choices:
        raise BadChoice(choice)


def check_team(works, choice, people):
    """Raise the errors for what manages is handed."""
    check_choice(works, choice)
    if not are_away(works.crew, people):
        raise BadPeople(people)


def dealt_by(works, choice, people):
    """Return any deal of the choice to some of these people, or hands for all people."""
    return dealt_to(works.crew, choice, (), others_than(works, people), len(works.crew))


def manages(works, choice, people):
    """Return any deal of the choice to some of these people, or hands for all people."""
    check_team(works, choice, people)
    return dealt_by(works, choice, people)


def shows_manages(works, choice, people, value):
    """Tell whether any value is what manages may return."""
    check_team(works, choice, people)
    others = others_than(works, people)
    if is_said(value, "deal"):
        return is_deal_of(works.crew, choice, (), others, value[1])
    return is_said(value, "none") and are_hands(works.crew, choice, (), others, len(works.crew), value[1])


def choice_teams(works, choice):
    """Return the ascending tuple of all teams of the choice."""
    check_choice(works, choice)
    return least_lots(people_of(works), lambda lot: dealt_by(works, choice, lot)[0] == "deal")


def shares_by(works, choice):
    """Return for each person the marks of all shares that some deal of the choice has, ascending."""
    used = used_marks(works.crew, choice, (), ())
    return {person: sorted(marks) for person, marks in zip(works.crew.people, used)}


def twins(works):
    """Return all two people such that each deal of each choice, with both exchanged, is a deal again."""
    told = [shares_by(works, choice) for choice in works.plan.choices]
    pairs = [lot for lot in lots_within(people_of(works)) if len(lot) == 2]
    # What others do bars no exchange: so two are twins just if they have the same shares.
    return tuple(sorted([pair for pair in pairs if all([used[pair[0]] == used[pair[1]] for used in told])]))
