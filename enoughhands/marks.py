"""Lots of some tasks told by numbers, which are quicker to go through than tuples.

The mark of a lot is the sum of 1 for the first task, 2 for the next one, 4, 8 and so on.
"""


def mark_of(tasks, lot):
    """Return the mark of those of the tasks that are in the lot."""
    return sum([1 << at for at, task in enumerate(tasks) if task in lot])


def lot_of(tasks, mark):
    """Return the lot with this mark; the tasks are handed in ascending."""
    return tuple([task for at, task in enumerate(tasks) if mark >> at & 1])


def size_of(mark):
    """Return how many tasks the lot with this mark has."""
    many = 0
    while mark:
        mark = mark & (mark - 1)
        many += 1
    return many


def marks_within(mark):
    """Return the list of the marks of all lots of some of the tasks of this one."""
    found = [0]
    left = mark
    while left:
        least = left & -left
        wider = [one + least for one in found]
        found = found + wider
        left = left - least
    return found
