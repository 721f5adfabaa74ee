"""What the document says of changes, gone through plainly: all choices of offers, all lots of people and of duties.

Nothing here calls the package. Works are told as tests/daily.py tells them.
"""

import itertools
import re

from tests import daily, plain

SIZES = {"stock": 3, "need": 4, "gain": 4, "may": 4, "hire": 4, "duty": 3}


def is_int(value, least, most):
    return type(value) is int and least <= value <= most


def is_offer(works, value):
    """Whether a value is an offer."""
    if type(value) is not tuple or not value or type(value[0]) is not str or SIZES.get(value[0]) != len(value):
        return False
    if not is_int(value[-1], 1, 9):
        return False
    lines = {line[0]: line[1:] for line in works.trade}
    if value[0] == "stock":
        return is_int(value[1], 1, 99999 - works.stock)
    if value[0] == "duty":
        return is_int(value[1], 0, len(works.duties) - 1)
    if value[0] in ("need", "gain"):
        if type(value[1]) is not str or value[1] not in lines:
            return False
        need, net = lines[value[1]]
        return is_int(value[2], 1, need if value[0] == "need" else 9999 - need - net)
    if type(value[1]) is not str or type(value[2]) is not str or value[2] not in works.tasks:
        return False
    if value[0] == "may":
        return value[1] in works.mays and value[2] not in works.mays[value[1]]
    return bool(re.fullmatch("[a-z]{1,8}", value[1])) and value[1] not in works.mays


def are_offers(works, value):
    if type(value) is not tuple or not 1 <= len(value) <= 5 or not all(is_offer(works, one) for one in value):
        return False
    if list(value) != sorted(set(value)):
        return False
    about = {"stock": 1, "need": 2, "gain": 2, "may": 3, "hire": 2, "duty": 2}
    if len({one[:about[one[0]]] for one in value}) < len(value):
        return False
    if len(works.mays) + sum(1 for one in value if one[0] == "hire") > 5:
        return False
    return all(len(works.mays[person]) + sum(1 for one in value if one[:2] == ("may", person)) <= 8 for person in works.mays)


def changed_text(works, offers):
    """The text of the works, one offer made after the other on its lines."""
    lines = works.text.split("\n")
    gone, hired = [], []
    for offer in offers:
        for at, line in enumerate(lines):
            words = line.split(" ")
            if offer[0] == "stock" and words[0] == "stock":
                lines[at] = f"stock {int(words[1]) + offer[1]}"
            if offer[0] == "need" and words[:2] == ["task", offer[1]]:
                lines[at] = f"task {offer[1]} {int(words[2]) - offer[2]} {int(words[3]) + offer[2]}"
            if offer[0] == "gain" and words[:2] == ["task", offer[1]]:
                lines[at] = f"task {offer[1]} {words[2]} {int(words[3]) + offer[2]}"
            if offer[0] == "may" and words[:2] == ["may", offer[1]]:
                lines[at] = f"{line} {offer[2]}"
        if offer[0] == "duty":
            gone.append(len(lines) - len(works.duties) + offer[1])
        if offer[0] == "hire":
            hired.append(f"may {offer[1]} {offer[2]}")
    behind = len(lines) - len(works.duties)
    return "\n".join(lines[:behind] + hired + [line for at, line in enumerate(lines) if at >= behind and at not in gone])


def changed(works, offers):
    return daily.Works(changed_text(works, offers))


def choices(offers):
    """All choices of offers, in sequence."""
    found = [lot for many in range(len(offers) + 1) for lot in itertools.combinations(offers, many)]
    return sorted(found, key=lambda lot: (sum(one[-1] for one in lot), len(lot), lot))


def serving(works, offers):
    return [lot for lot in choices(offers) if changed(works, lot).has_rests((), ())]


def is_rest(works, day, away, value):
    return works.is_finish(day, away, ("rest", value))


def are_reasons(works, lots, value):
    return type(value) is tuple and len(value) == len(lots) and all(
        type(one) is tuple and len(one) == 2 and plain.alike(one[0], lot) and changed(works, lot).are_papers((), (), one[1])
        for lot, one in zip(lots, value))


def is_cheapest(works, offers, value):
    """Whether a value is what cheapest may tell."""
    lots = choices(offers)
    good = serving(works, offers)
    if not good:
        return type(value) is tuple and len(value) == 2 and plain.alike(value[0], "none") and are_reasons(works, lots, value[1])
    first = good[0]
    return (type(value) is tuple and len(value) == 5 and plain.alike(value[:3], ("choice", sum(one[-1] for one in first), first))
            and is_rest(changed(works, first), (), (), value[3]) and are_reasons(works, lots[:lots.index(first)], value[4]))


def with_stock(works, stock):
    """The works with a stock however great, below 0 too."""
    other = daily.Works(works.text)
    other.stock = stock
    return other


def with_need(works, task, more):
    """The works in which the need of a task is so much greater."""
    other = daily.Works(works.text)
    lines = {line[0]: line for line in works.trade}
    lines[task] = (task, lines.get(task, (task, 0, 0))[1] + more, lines.get(task, (task, 0, 0))[2])
    other.trade = tuple(sorted(lines.values()))
    return other


def top(works):
    """More than any level can be, and than any need."""
    return works.stock + sum(need + abs(net) for task, need, net in works.trade) + 1


def more(works, day, away):
    """How much more stock is wanting, None if it never is enough."""
    for number in range(top(works) + 1):
        if with_stock(works, works.stock + number).has_rests(day, away):
            return number
    return None


def is_more(works, day, away, value):
    number = more(works, day, away)
    if type(value) is not tuple:
        return False
    if number is None:
        return (len(value) == 2 and plain.alike(value[0], "never") and works.are_papers(day, away, value[1])
                and all(plain.alike(paper[1], "hands") for paper in value[1]))
    if len(value) != 4 or not plain.alike(value[:2], ("more", number)):
        return False
    if not is_rest(with_stock(works, works.stock + number), day, away, value[2]):
        return False
    if number == 0:
        return plain.alike(value[3], ())
    return with_stock(works, works.stock + number - 1).are_papers(day, away, value[3])


def room(works, day, away, task):
    """How much greater the need of a task can be, None if it is free."""
    if with_need(works, task, top(works)).has_rests(day, away):
        return None
    return max(number for number in range(top(works)) if with_need(works, task, number).has_rests(day, away))


def is_room(works, day, away, task, value):
    number = room(works, day, away, task)
    if type(value) is not tuple:
        return False
    if number is None:
        return (len(value) == 2 and plain.alike(value[0], "free") and is_rest(works, day, away, value[1])
                and all(one != task for one, person in value[1]))
    return (len(value) == 4 and plain.alike(value[:2], ("room", number))
            and is_rest(with_need(works, task, number), day, away, value[2])
            and with_need(works, task, number + 1).are_papers(day, away, value[3]))


def here(works, away):
    return sorted(person for person in works.mays if person not in away)


def gone(away, lot):
    return tuple(sorted(away + lot))


def lots_to_go(works, away, many):
    return list(itertools.combinations(here(works, away), min(many, len(here(works, away)))))


def does_hold(works, day, away, many):
    return all(works.has_rests(day, gone(away, lot)) for lot in lots_to_go(works, away, many))


def is_holds(works, day, away, many, value):
    """Whether a value is what holds may tell."""
    if type(value) is not tuple:
        return False
    if does_hold(works, day, away, many):
        lots = lots_to_go(works, away, many)
        return (len(value) == 2 and plain.alike(value[0], "holds") and type(value[1]) is tuple and len(value[1]) == len(lots)
                and all(type(row) is tuple and len(row) == 2 and plain.alike(row[0], lot)
                        and is_rest(works, day, gone(away, lot), row[1]) for lot, row in zip(lots, value[1])))
    if len(value) != 3 or not plain.alike(value[0], "falls"):
        return False
    lots = [lot for number in range(many + 1) for lot in itertools.combinations(here(works, away), number)]
    return any(plain.alike(value[1], lot) and not works.has_rests(day, gone(away, lot))
               and works.are_papers(day, gone(away, lot), value[2]) for lot in lots)


def losses(works, day, away):
    found = [many for many in range(len(here(works, away)) + 1) if does_hold(works, day, away, many)]
    return max(found, default=None)


def with_duties(works, numbers):
    """The works with just these duties."""
    lines = works.text.split("\n")
    behind = len(lines) - len(works.duties)
    return daily.Works("\n".join(lines[:behind] + [lines[behind + number] for number in numbers]))


def duty_lots(works):
    numbers = range(len(works.duties))
    return [lot for many in range(len(numbers) + 1) for lot in itertools.combinations(numbers, many)]


def quarrels(works):
    """All least lots of duties with which there are no rests."""
    found = [lot for lot in duty_lots(works) if not with_duties(works, lot).has_rests((), ())]
    return tuple(sorted(lot for lot in found if not any(lot[:at] + lot[at + 1:] in found for at in range(len(lot)))))


def freed(works):
    """All least lots of duties without which there are rests."""
    numbers = range(len(works.duties))
    found = [lot for lot in duty_lots(works)
             if with_duties(works, [one for one in numbers if one not in lot]).has_rests((), ())]
    return tuple(sorted(lot for lot in found if not any(lot[:at] + lot[at + 1:] in found for at in range(len(lot)))))


def any_offer(rng, works):
    """A value that is often an offer."""
    word = rng.choice(list(SIZES))
    price = rng.choice((1, 1, 2, 3, 9))
    tasks = [line[0] for line in works.trade] or ["a"]
    if word == "stock":
        return ("stock", rng.randint(1, 6), price)
    if word == "duty":
        return ("duty", rng.randint(0, 3), price)
    if word in ("need", "gain"):
        return (word, rng.choice(tasks), rng.randint(1, 4), price)
    who = rng.choice(list(works.mays)) if word == "may" else rng.choice(("zoe", "yan", "a", "may"))
    return (word, who, rng.choice(works.tasks), price)


def any_offers(rng, works, most=5):
    """Any offers."""
    many = rng.randint(1, most)
    found = ()
    for _ in range(60):
        more_told = tuple(sorted(found + (any_offer(rng, works),)))
        if len(found) < many and are_offers(works, more_told):
            found = more_told
    return found or (("stock", 1, 1),)


def tight_cases(rng, many, names=("a", "b", "c", "d"), most_people=3, duties=3):
    """Works with a day and people who are away, whose stock is often too little."""
    for told, day, away in daily.cases(rng, many, names, most_people, duties):
        if not day and rng.random() < 0.6:
            told = with_stock_line(told, max(0, told.stock - rng.choice((0, 1, 2, 5))))
        yield told, day, away


def with_stock_line(works, stock):
    return daily.Works("\n".join([f"stock {stock}"] + works.text.split("\n")[1:]))
