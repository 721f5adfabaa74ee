"""What two crews keep both, however many duties they have together."""

from enoughhands.dealranks import deals_for, with_pair


class Both:
    """The people, tasks and duties by which just those deals are kept that both crews keep."""

    def __init__(self, one, other):
        self.people = tuple([person for person in one.people if person in other])
        self.mays = {}
        for person in self.people:
            self.mays[person] = [task for task in one.may(person) if task in other.may(person)]
        self.duties = one.duties + other.duties

    def may(self, person):
        """Return the lot of the tasks that this person may do."""
        return tuple(self.mays[person])


def deal_apart(one, other, tasks):
    """Return any deal of the tasks that one crew keeps and the other one does not, None if there is none."""
    both = Both(one, other)
    if deals_for(one, tasks, (), ()) == deals_for(both, tasks, (), ()):
        return None
    deal = ()
    for task in tasks:
        deals = [with_pair(deal, (task, person)) for person in one.people]
        apart = [more for more in deals if deals_for(one, tasks, more, ()) > deals_for(both, tasks, more, ())]
        deal = apart[0]
    return deal
