"""What the document says of crews and deals, gone through plainly: all deals, all lots of each person.

Nothing here calls the package. A crew is told here as (mays, duties): {person: tasks}, in sequence, and
the list of duties as the document tells them.
"""

import itertools
import re

from tests import plain

NAME = "[a-z]{1,8}"
PEOPLE = ("ann", "bob", "cat", "dan", "eve")


def duty_of(line):
    """The duty of a line by its look alone, None if it is none."""
    if told := re.fullmatch(f"most ({NAME}) ([0-8])", line):
        return ("most", told[1], int(told[2]))
    if told := re.fullmatch(f"(unlike|same)((?: {NAME}){{2,8}})", line):
        return (told[1], tuple(sorted(told[2].split())))
    if told := re.fullmatch(f"few ([1-5])((?: {NAME}){{1,8}})", line):
        return ("few", int(told[1]), tuple(sorted(told[2].split())))
    return None


def read(text):
    """(mays, duties) of a text, or the number of its first wrong line."""
    if type(text) is not str:
        return 0
    mays, duties = {}, []
    for number, line in enumerate(text.split("\n"), 1):
        told = re.fullmatch(f"may ({NAME})((?: {NAME}){{1,8}})", line)
        if told and not duties:
            tasks = told[2].split()
            if told[1] in mays or len(mays) == 5 or len(set(tasks)) < len(tasks):
                return number
            mays[told[1]] = tuple(tasks)
            continue
        duty = duty_of(line)
        if not mays or duty is None or duty in duties or len(duties) == 8:
            return number
        if duty[0] == "most" and duty[1] not in mays:
            return number
        if duty[0] != "most" and len(set(duty[-1])) < len(duty[-1]):
            return number
        if duty[0] == "few" and sum(1 for one in duties if one[0] == "few") == 2:
            return number
        duties.append(duty)
    return mays, duties


def line_of(duty):
    if duty[0] == "most":
        return f"most {duty[1]} {duty[2]}"
    if duty[0] == "few":
        return f"few {duty[1]} {' '.join(duty[2])}"
    return f"{duty[0]} {' '.join(duty[1])}"


def any_duty(rng, people, tasks):
    kind = rng.choice(("most", "unlike", "same", "few", "unlike"))
    if kind == "most":
        return ("most", rng.choice(people), rng.choice((0, 1, 1, 2, 3, 8)))
    least = 1 if kind == "few" else 2
    told = tuple(sorted(rng.sample(tasks, rng.randint(least, min(4, len(tasks))))))
    return ("few", rng.randint(1, 4), told) if kind == "few" else (kind, told)


def any_crew(rng, tasks, people=4, duties=4):
    """The text of any crew that may do some of these tasks; few duties, so that something can be done."""
    mays = {}
    for person in rng.sample(PEOPLE, rng.randint(1, people)):
        mays[person] = tuple(rng.sample(tasks, rng.randint(1, len(tasks))))
    told = []
    for _ in range(rng.randint(0, duties)):
        duty = any_duty(rng, list(mays), [*tasks, "x"])
        if duty not in told and (duty[0] != "few" or sum(1 for one in told if one[0] == "few") < 2):
            told.append(duty)
    lines = [f"may {person} {' '.join(mays[person])}" for person in mays]
    for duty in told:
        words = line_of(duty).split(" ")
        low = 2 if duty[0] == "few" else 1
        if duty[0] != "most":
            tail = words[low:]
            rng.shuffle(tail)
            words[low:] = tail
        lines.append(" ".join(words))
    return "\n".join(lines)


def some_crews(rng, many, tasks=("a", "b", "c", "d"), people=4, duties=4):
    return [any_crew(rng, tasks, people, duties) for _ in range(many)]


def wrong_tasks(mays, deal):
    return tuple(task for task, person in deal if task not in mays[person])


def is_broken(duty, deal):
    if duty[0] == "most":
        return sum(1 for task, person in deal if person == duty[1]) > duty[2]
    if duty[0] == "unlike":
        return any(p == q for (s, p), (t, q) in itertools.combinations(deal, 2) if s in duty[1] and t in duty[1])
    if duty[0] == "same":
        return any(p != q for (s, p), (t, q) in itertools.combinations(deal, 2) if s in duty[1] and t in duty[1])
    return len({person for task, person in deal if task in duty[2]}) > duty[1]


def is_deal(mays, value):
    if type(value) is not tuple or len(value) > 8:
        return False
    for pair in value:
        if type(pair) is not tuple or len(pair) != 2 or any(type(word) is not str for word in pair):
            return False
        if not re.fullmatch(NAME, pair[0]) or pair[1] not in mays:
            return False
    tasks = [pair[0] for pair in value]
    return tasks == sorted(set(tasks))


def is_kept(crew, deal):
    mays, duties = crew
    return not wrong_tasks(mays, deal) and not any(is_broken(duty, deal) for duty in duties)


def keeps(crew, value):
    return is_deal(crew[0], value) and is_kept(crew, value)


def all_deals(people, tasks):
    """All ways to give each of these tasks to one of the people."""
    return [tuple(zip(tasks, chosen)) for chosen in itertools.product(sorted(people), repeat=len(tasks))]


def deals_of(crew, tasks, given=(), away=()):
    """All deals of the tasks, ascending."""
    found = []
    for deal in all_deals(crew[0], tasks):
        rest = set(deal) - set(given)
        if set(given) <= set(deal) and not any(person in away for task, person in rest) and is_kept(crew, deal):
            found.append(deal)
    return found


def kept_deals(crew, tasks):
    """All kept deals of some of these tasks."""
    return [deal for lot in lots_of(tasks) for deal in deals_of(crew, lot)]


def lots_of(tasks):
    return [lot for many in range(len(tasks) + 1) for lot in itertools.combinations(tuple(sorted(tasks)), many)]


def shares(crew, tasks, given, away, person):
    """All shares of a person, ascending."""
    mays, duties = crew
    own = {task for task, one in given if one == person}
    others = {task for task, one in given if one != person}
    found = []
    for lot in lots_of(tasks):
        taken = set(lot)
        if not own <= taken or taken & others or person in away and taken != own or not taken <= set(mays[person]):
            continue
        if any(duty[0] == "most" and duty[1] == person and len(lot) > duty[2]
               or duty[0] == "unlike" and len(taken & set(duty[1])) > 1
               or duty[0] == "same" and taken & set(duty[1]) and not set(duty[1]) & set(tasks) <= taken
               for duty in duties):
            continue
        found.append(lot)
    return sorted(found)


def few(crew):
    return [duty for duty in crew[1] if duty[0] == "few"]


def leads(crew, stand, share):
    counts = [stand[1][0] + bool(share)]
    for count, duty in zip(stand[1][1:], few(crew)):
        counts.append(count + any(task in duty[2] for task in share))
    return (tuple(sorted(stand[0] + share)), tuple(counts))


def is_great(crew, most, stand):
    return stand[1][0] > most or any(count > duty[1] for count, duty in zip(stand[1][1:], few(crew)))


def reached(crew, tasks, given, away, most):
    ahead, told = [((), (0,) * (1 + len(few(crew))))], []
    for person in crew[0]:
        found = {leads(crew, stand, share) for stand in ahead for share in shares(crew, tasks, given, away, person)
                 if not set(stand[0]) & set(share)}
        ahead = sorted(stand for stand in found if not is_great(crew, most, stand))
        told.append(tuple(ahead))
    return tuple(told)


def is_stand(crew, tasks, value):
    return (type(value) is tuple and len(value) == 2 and any(plain.alike(value[0], lot) for lot in lots_of(tasks))
            and type(value[1]) is tuple and len(value[1]) == 1 + len(few(crew))
            and all(type(count) is int and count >= 0 for count in value[1]))


def is_hands(crew, tasks, given, away, most, value):
    """Whether a value is hands, as the document tells it."""
    if type(value) is not tuple or len(value) != len(crew[0]):
        return False
    for stands in value:
        if type(stands) is not tuple or not all(is_stand(crew, tasks, stand) for stand in stands):
            return False
        if list(stands) != sorted(set(stands)):
            return False
    ahead = [((), (0,) * (1 + len(few(crew))))]
    for person, stands in zip(crew[0], value):
        for stand in ahead:
            for share in shares(crew, tasks, given, away, person):
                if not set(stand[0]) & set(share):
                    later = leads(crew, stand, share)
                    if later not in stands and not is_great(crew, most, later):
                        return False
        ahead = stands
    return not any(stand[0] == tasks for stand in value[-1])


def people_in(deal):
    return len({person for task, person in deal})


def some_told(rng, crew, tasks):
    """Tasks, given and away, some of which can be, some not."""
    tasks = tuple(sorted(rng.sample(tasks, rng.randint(0, len(tasks)))))
    given = ()
    if rng.random() < 0.5:
        some = sorted(rng.sample(tasks, rng.randint(0, min(2, len(tasks)))))
        given = tuple((task, rng.choice(list(crew[0]))) for task in some)
    away = ()
    if rng.random() < 0.5:
        away = tuple(sorted(rng.sample(list(crew[0]), rng.randint(0, min(2, len(crew[0]))))))
    return tasks, given, away
