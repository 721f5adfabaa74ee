"""Works: a stock, a plan, what its tasks need and give, and a crew."""

from enoughhands.crews import Crew
from enoughhands.errors import BadCrew, BadPlan, BadWorks
from enoughhands.lines import read_integer
from enoughhands.plans import Plan
from enoughhands.trades import check_stock, is_line, is_stock


def read_stock(line):
    """Return the stock that this line tells, None if it tells none."""
    words = line.split(" ")
    if len(words) != 2 or words[0] != "stock":
        return None
    stock = read_integer(words[1])
    return stock if is_stock(stock) else None


def read_plan(line):
    """Return the Plan that this line tells, None if it tells none."""
    word, _, text = line.partition(" ")
    if word != "plan":
        return None
    try:
        return Plan(text)
    except BadPlan:
        return None


def read_task(line, plan):
    """Return (task, need, net) of a task of the plan that this line tells, None if it tells none."""
    words = line.split(" ")
    if len(words) != 4 or words[0] != "task" or words[1] not in plan:
        return None
    told = (words[1], read_integer(words[2]), read_integer(words[3]))
    return told if is_line(told) else None


def read_trade(lines, plan):
    """Return a table of the (task, need, net) that the first of these lines tell, as they stand."""
    trade = {}
    for line in lines:
        told = read_task(line, plan)
        if told is None or told[0] in trade:
            break
        trade[told[0]] = told
    return trade


class Works:
    """Works, by their text; they never change."""

    def __init__(self, text):
        if not isinstance(text, str):
            raise BadWorks(0)
        lines = text.split("\n")
        self.text = text
        self.stock = read_stock(lines[0])
        if self.stock is None:
            raise BadWorks(1)
        self.plan = read_plan(lines[1]) if len(lines) > 1 else None
        if self.plan is None:
            raise BadWorks(2)
        trade = read_trade(lines[2:], self.plan)
        self.trade = tuple([trade[task] for task in sorted(list(trade))])
        ahead = 2 + len(trade)
        try:
            # If no line is left, it is the one line of the empty text that is missing.
            self.crew = Crew("\n".join(lines[ahead:]))
        except BadCrew as told:
            raise BadWorks(ahead + told.value) from None

    def __eq__(self, other):
        return isinstance(other, Works) and self.text == other.text

    def with_stock(self, stock):
        """Return the Works with this stock."""
        check_stock(stock)
        lines = self.text.split("\n")
        return Works("\n".join(["stock " + str(stock)] + lines[1:]))

    def by(self, choice):
        """Return the Works with the plan chosen by this choice."""
        plan = self.plan.chosen(choice)
        lines = self.text.split("\n")
        ahead = 2 + len(self.trade)
        tasks = [line for line in lines[2:ahead] if line.split(" ")[1] in plan]
        return Works("\n".join([lines[0], "plan " + plan.text] + tasks + lines[ahead:]))
