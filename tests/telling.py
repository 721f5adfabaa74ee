"""What the document says of eithers that others choose, gone through plainly: all tellings, all standings.

Nothing here calls the package. Eithers are found in the text of the plan, by where they begin.
"""

import itertools

from tests import daily, people, plain


def closing(text, at):
    """Where the bracket that opens at a place, or behind it, is closed."""
    depth = 0
    for place in range(text.index("(", at), len(text)):
        depth += {"(": 1, ")": -1}.get(text[place], 0)
        if depth == 0:
            return place


def begins(text):
    """Where the eithers begin."""
    return [at for at in range(len(text)) if text.startswith("either(", at)]


def eithers(text):
    return [text[at:closing(text, at) + 1] for at in begins(text)]


def parts(text, at):
    """Where the parts of the either that begins at a place begin and end."""
    found, depth, begun = [], 0, at + 7
    for place in range(at + 7, closing(text, at) + 1):
        if depth == 0 and text[place] in ",)":
            found.append((begun, place))
            begun = place + 1
        depth += {"(": 1, ")": -1}.get(text[place], 0)
    return found


def by(text, told):
    """The text by what is told: what begins last is exchanged first, so that the others begin where they did."""
    places = begins(text)
    for number, part in reversed(told):
        at = places[number]
        begun, ended = parts(text, at)[part]
        text = text[:at] + text[begun:ended] + text[closing(text, at) + 1:]
    return text


def stands(text, told, number):
    """Whether an either is left in the plan, told or not, by what is told of those around it."""
    places = begins(text)
    for one, part in told:
        if places[one] < places[number] < closing(text, places[one]):
            begun, ended = parts(text, places[one])[part]
            if not begun <= places[number] < ended:
                return False
    return True


def is_foreign(text, value):
    numbers = range(len(begins(text)))
    return (type(value) is tuple and all(type(one) is int and one in numbers for one in value)
            and list(value) == sorted(set(value)))


def is_told(text, foreign, value):
    if type(value) is not tuple:
        return False
    for pair in value:
        if type(pair) is not tuple or len(pair) != 2 or not all(type(one) is int for one in pair):
            return False
        if pair[0] not in foreign or not 0 <= pair[1] < len(parts(text, begins(text)[pair[0]])):
            return False
    numbers = [pair[0] for pair in value]
    return numbers == sorted(set(numbers))


def all_told(text, foreign):
    """All that can be told of the foreign eithers."""
    places = begins(text)
    ways = [[()] + [((one, part),) for part in range(len(parts(text, places[one])))] for one in foreign]
    return [sum(told, ()) for told in itertools.product(*ways)]


def is_all_told(text, foreign, told):
    """Whether no foreign either is left."""
    known = {one for one, part in told}
    return not any(one not in known and stands(text, told, one) for one in foreign)


def tellings(text, foreign):
    """All tellings, ascending."""
    return sorted(told for told in all_told(text, foreign) if is_all_told(text, foreign, told) and not any(
        is_all_told(text, foreign, told[:at] + told[at + 1:]) for at in range(len(told))))


def foreign_lots(text):
    numbers = range(len(begins(text)))
    return [lot for many in range(len(numbers) + 1) for lot in itertools.combinations(numbers, many)]


class Ways:
    """The beginnings of a plan, and what comes next behind each lot of one."""

    known = {}

    def __init__(self, text):
        self.next = {}
        for done in plain.beginnings(text):
            self.next.setdefault(plain.lot(done), set())
            if done:
                self.next[plain.lot(done[:-1])].add(done[-1])
        self.choices = {plain.lot(run) for run in plain.runs(text)}


def ways(text):
    if text not in Ways.known:
        Ways.known[text] = Ways(text)
    return Ways.known[text]


def asks(text, foreign, told, tasks):
    """Which eithers are to be told behind a lot; None for what is no lot of a beginning."""
    found = ways(by(text, told)).next
    if not any(plain.alike(tasks, lot) for lot in found):
        return None
    every, known = eithers(text), {one for one, part in told}
    return tuple(one for one in foreign
                 if one not in known and set(plain.tree_tasks(plain.tree(every[one]))) & found[tasks])


class Course:
    """All standings that come, of works as daily tells them, each with how it goes on."""

    def __init__(self, works, foreign, away):
        self.works, self.foreign, self.away = works, foreign, away
        self.steps, waiting = {}, [((), ())]
        while waiting:
            standing = waiting.pop()
            if standing not in self.steps:
                self.steps[standing] = self.step(*standing)
                waiting += self.steps[standing][2]
        self.known = {}

    def step(self, deal, told):
        works = self.works
        found = ways(by(works.plan, told))
        tasks = tuple(task for task, person in deal)
        asked = asks(works.plan, self.foreign, told, tasks)
        if asked:
            many = len(parts(works.plan, begins(works.plan)[asked[0]]))
            return ("ask", asked[0], [(deal, plain.lot(told + ((asked[0], part),))) for part in range(many)])
        if tasks in found.choices:
            return ("done", None, [])
        level, events = works.level(deal), []
        for task, person in itertools.product(sorted(found.next[tasks]), sorted(works.mays)):
            more = plain.lot(deal + ((task, person),))
            need = plain.steps_of(works.trade, (task,))[0][0]
            if need <= level and person not in self.away and people.is_kept(works.crew, more):
                events.append((task, person))
        return ("do", events, [(plain.lot(deal + (event,)), told) for event in events])

    def has_tree(self, standing):
        if standing not in self.known:
            word, what, later = self.steps[standing]
            good = [self.has_tree(one) for one in later]
            self.known[standing] = word == "done" or (all(good) if word == "ask" else any(good))
        return self.known[standing]

    def comes(self, value):
        return any(plain.alike(value, standing) for standing in self.steps)

    def is_tree(self, standing, value):
        word, what, later = self.steps[standing]
        if word == "done":
            return plain.alike(value, ("done",))
        if type(value) is not tuple or len(value) != 3:
            return False
        if word == "ask":
            return (plain.alike(value[:2], ("told", what)) and type(value[2]) is tuple and len(value[2]) == len(later)
                    and all(self.is_tree(one, tree) for one, tree in zip(later, value[2])))
        return any(plain.alike(value[:2], ("event", event)) and self.is_tree(one, value[2])
                   for event, one in zip(what, later))

    def any_tree(self, rng, standing, wrong=0.0):
        """Any tree from a standing; by chance, or where there is none, one that goes wrong somewhere."""
        word, what, later = self.steps[standing]
        if word == "done":
            return ("done",)
        if word == "ask":
            return ("told", what, tuple(self.any_tree(rng, one, wrong) for one in later))
        good = [at for at, one in enumerate(later) if self.has_tree(one) or rng.random() < wrong]
        if not good:
            return ("done",)
        at = rng.choice(good)
        return ("event", what[at], self.any_tree(rng, later[at], wrong))

    def is_lost(self, standing, value):
        if type(value) is not tuple or not all(self.comes(one) for one in value):
            return False
        if list(value) != sorted(set(value)) or standing not in value:
            return False
        for one in value:
            word, what, later = self.steps[one]
            found = [behind in value for behind in later]
            if word == "done" or word == "ask" and not any(found) or word == "do" and not all(found):
                return False
        return True

    def any_lost(self, rng, standing):
        """As few lost standings with this one as lead on from it, where there are such."""
        found, waiting = set(), [standing]
        while waiting:
            one = waiting.pop()
            if one in found:
                continue
            found.add(one)
            word, what, later = self.steps[one]
            bad = [behind for behind in later if not self.has_tree(behind)]
            waiting += rng.sample(bad, min(1, len(bad))) if word == "ask" else later
        return tuple(sorted(found))

    def is_surely(self, standing, value):
        if type(value) is not tuple or len(value) != 2:
            return False
        if plain.alike(value[0], "tree"):
            return self.is_tree(standing, value[1])
        return plain.alike(value[0], "lost") and self.is_lost(standing, value[1])

    def view(self, standing):
        word, what, later = self.steps[standing]
        if word == "done":
            return ("done",)
        if word == "ask":
            return ("ask", what, tuple(part for part, one in enumerate(later) if not self.has_tree(one)))
        return ("do", tuple(event for event, one in zip(what, later) if self.has_tree(one)))

    def if_known(self):
        works, found = self.works, []
        for told in tellings(works.plan, self.foreign):
            other = daily.Works(works.text.replace("plan " + works.plan, "plan " + by(works.plan, told)))
            if not other.has_rests((), self.away):
                found.append(told)
        return tuple(found)


def cases(rng, many, names=("a", "b", "c", "d"), most_people=3, duties=2):
    """Works in which much is chosen, with foreign eithers and people who are away."""
    kinds = ("then", "beside", "either", "either")
    made = 0
    while made < many:
        text = daily.any_works(rng, names, most_people, duties, kinds)
        if begins(text) or rng.random() < 0.05:
            made += 1
            works = daily.Works(text)
            yield works, rng.choice(foreign_lots(works.plan)), rng.choice(((), (), (), daily.any_away(rng, works)))
