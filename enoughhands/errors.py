"""All errors of the package."""


class HandError(ValueError):
    """The base of all errors here; it keeps the one value that it was created with."""

    def __init__(self, value):
        self.value = value


class BadPlan(HandError):
    """The value is not the text of a plan."""


class BadChoice(HandError):
    """The value is no choice of the plan."""


class BadDone(HandError):
    """The value is no beginning of the plan."""


class BadNumber(HandError):
    """The value is no number that is asked for here."""


class BadRun(HandError):
    """The value is no run that is asked for here."""


class TooMany(HandError):
    """There are more than may be told one by one; the value is how many may."""


class Unlike(HandError):
    """Two runs do not have the same tasks; the value is None."""


class NoTask(HandError):
    """The value is no task of the plan."""


class Same(HandError):
    """Two tasks are alike; the value is this task."""


class BadPairs(HandError):
    """The value is not told as words between tasks."""


class Wide(HandError):
    """There would be more tasks or choices than the value."""


class BadLot(HandError):
    """The value is no lot of tasks that is asked for here."""


class BadOther(HandError):
    """The value is no plan that can be put in."""


class BadName(HandError):
    """The value is no name that can be put in."""


class BadTrade(HandError):
    """The value is no trade."""


class BadStock(HandError):
    """The value is no stock."""


class BadTasks(HandError):
    """The value is not told as tasks."""


class BadSteps(HandError):
    """The value is not told as steps."""


class BadStairs(HandError):
    """The value is not told as stairs."""


class BadBase(HandError):
    """The value is no base."""


class NotEnough(HandError):
    """The stock is too small; the value is the least one that would do."""


class BadRow(HandError):
    """The value is no row."""


class NotPlain(HandError):
    """The plan is not plain; the value is how many choices it has."""


class BadRows(HandError):
    """The value is not told as rows for the tasks of the plan."""


class BadStep(HandError):
    """The value is no step."""


class NotLet(HandError):
    """A task is not let; the value is its number."""


class NoRun(HandError):
    """No run is let; the value is closed lots, none of them a choice."""


class BadCrew(HandError):
    """The text is not that of a crew; the value is the number of a line."""


class NoPerson(HandError):
    """The value is no person of the crew."""


class BadTask(HandError):
    """The value is no name of a task."""


class Known(HandError):
    """This person may do the task already; the value is the task."""


class Full(HandError):
    """There are as many as there may be; the value is how many."""


class NotKnown(HandError):
    """The value is no task that this person may do."""


class Last(HandError):
    """There is no other task that this person may do; the value is the task."""


class BadDuty(HandError):
    """The value is not told as a duty."""


class Held(HandError):
    """The crew has the duty already; the value is the duty."""


class NoDuty(HandError):
    """The value is the number of no duty."""


class BadDeal(HandError):
    """The value is no deal."""


class Nobody(HandError):
    """Nobody is left; the value is None."""


class BadAway(HandError):
    """The value is not told as people who are away."""


class BadStand(HandError):
    """The value is no stand."""


class BadShare(HandError):
    """The value is no share."""


class NoDeal(HandError):
    """The value is no deal of the tasks."""


class NotSimple(HandError):
    """A duty is no duty most; the value is its number."""


class BadWorks(HandError):
    """The text is not that of works; the value is the number of a line."""


class BadDay(HandError):
    """The value is no day."""


class NoRest(HandError):
    """The value is no rest."""


class BadForeign(HandError):
    """The value is not told as foreign eithers."""


class BadTold(HandError):
    """The value is not told as parts that others chose."""


class BadStanding(HandError):
    """The value is no standing that comes."""


class BadOffers(HandError):
    """The value is not told as offers."""


class NoRests(HandError):
    """The day has no rests; the value is papers of it."""


class OtherWorks(HandError):
    """The value is no works."""


class Apart(HandError):
    """Two works do not have the same plan and trade; the value is None."""


class BadPeople(HandError):
    """The value is not told as people of the crew."""


class Stuck(HandError):
    """The day would have no rests; the value is papers of it."""


class Away(HandError):
    """Somebody is away; the value is this person."""


class NotNow(HandError):
    """The day cannot go on with a task; the value is this task."""


class Short(HandError):
    """The level is too small; the value is how much is wanting."""


class NotKept(HandError):
    """The day would not be kept; the value tells what is broken."""


class Here(HandError):
    """Somebody is not away; the value is this person."""


class NothingToUndo(HandError):
    """No deed stands that could be taken back; the value is None."""


class NothingToRedo(HandError):
    """No deed could be done again; the value is None."""


class NoTrial(HandError):
    """There is no block that could be kept; the value is None."""


class BadJournal(HandError):
    """The text is no journal; the value is the number of a line."""


class BadSaying(HandError):
    """The value is no line that a desk takes."""
