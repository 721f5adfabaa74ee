"""Steps, one behind the other, and the stairs that tell how far they lead."""

from enoughhands.checks import is_integer, is_row_of
from enoughhands.errors import BadBase, BadStairs, BadSteps
from enoughhands.trades import checked_steps


def is_integers(value):
    """Tell whether any value is a pair of integers."""
    return is_row_of(value, 2) and is_integer(value[0]) and is_integer(value[1])


def is_step(value):
    """Tell whether any value is a step (need, net)."""
    return is_integers(value) and value[0] >= 0 and value[0] + value[1] >= 0


def check_steps(steps):
    """Raise the error for what is no tuple of steps."""
    if not isinstance(steps, tuple) or not all([is_step(step) for step in steps]):
        raise BadSteps(steps)


def is_stairs(value):
    """Tell whether any value is stairs."""
    if not isinstance(value, tuple) or not all([is_integers(pair) for pair in value]):
        return False
    if len(value) > 0 and (value[0][0] < 0 or value[0][1] <= 0):
        return False
    pairs = list(zip(value, value[1:]))
    return all([low[0] < high[0] and low[1] < high[1] for low, high in pairs])


def check_stairs(stairs):
    """Raise the error for what is no stairs."""
    if not is_stairs(stairs):
        raise BadStairs(stairs)


def last_pair(stairs):
    """Return the last base and the last gain, 0 for both without stairs."""
    return stairs[-1] if stairs else (0, 0)


def put_pair(found, pair):
    """Put the pair behind the others; of two with one base only the later one stands."""
    if found and found[-1][0] == pair[0]:
        found.pop()
    found.append(pair)


def climbs(steps):
    """Return the list of (base, gain, number) of the stairs of these steps.

    So many of the first steps come to this gain at this base.
    """
    found = []
    base = risen = most = 0
    for at, (need, gain) in enumerate(steps):
        base = max(base, need - risen)
        risen += gain
        if risen > most:
            most = risen
            put_pair(found, (base, most, at + 1))
    return found


def stairs_for(steps):
    """Return the stairs of what surely are steps."""
    return tuple([(base, gain) for base, gain, number in climbs(steps)])


def back_steps(steps):
    """Return the list of what surely are steps, told backwards."""
    return [(need + gain, -gain) for need, gain in reversed(steps)]


def stairs_of(steps):
    """Return the stairs of these steps."""
    check_steps(steps)
    return stairs_for(steps)


def steps_by(trade, tasks):
    """Return the steps that tasks are by this trade."""
    return tuple(checked_steps(trade, tasks))


def steps_back(steps):
    """Return the steps in contrary sequence, told backwards."""
    check_steps(steps)
    return tuple(back_steps(steps))


def gain_for(stairs, base):
    """Return the gain that stairs tell at a base."""
    gains = [gain for least, gain in stairs if least <= base]
    return gains[-1] if gains else 0


def gain_at(stairs, base):
    """Return the gain that these stairs tell at this base."""
    check_stairs(stairs)
    if not is_integer(base):
        raise BadBase(base)
    return gain_for(stairs, base)


def lower_base(one, other):
    """Return the least base at which one tells less than other, None if there is none."""
    # Where one falls behind, other has just risen: only its bases need a look.
    bases = [base for base, gain in other if gain_for(one, base) < gain]
    return bases[0] if bases else None


def no_less(one, other):
    """Return None if one nowhere tells less than other, or the least base where it does."""
    check_stairs(one)
    check_stairs(other)
    return lower_base(one, other)


def both_stairs(one, other):
    """Return the stairs of both beside one another."""
    found = []
    at = its = base = mine = yours = 0
    while at < len(one) or its < len(other):
        # The base at which the next pair of each is reached, by what the other one has gained.
        wanted = [pair[0] - yours for pair in one[at:at + 1]]
        others = [pair[0] - mine for pair in other[its:its + 1]]
        base = max(base, min(wanted + others))
        if wanted and wanted[0] <= base:
            mine = one[at][1]
            at += 1
        else:
            yours = other[its][1]
            its += 1
        put_pair(found, (base, mine + yours))
    return tuple(found)


def both(one, other):
    """Return the stairs of two tuples of steps beside one another, by the stairs of each."""
    check_stairs(one)
    check_stairs(other)
    return both_stairs(one, other)
