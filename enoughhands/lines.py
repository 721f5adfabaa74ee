"""The lines of a crew: who may do which tasks, and duties."""

from enoughhands.checks import is_integer, is_lot, is_name, is_row_of

MOST_PEOPLE = 5
MOST_TASKS = 8
MOST_DUTIES = 8
MOST_FEW = 2


def read_integer(word):
    """Return the integer that Python writes so, None if there is none."""
    figures = word[1:] if word.startswith("-") else word
    if not figures or not all(["0" <= sign <= "9" for sign in figures]):
        return None
    return int(word) if str(int(word)) == word else None


def is_duty(value, people):
    """Tell whether any value is told as a duty that could stand in a line of a crew of these people."""
    if is_row_of(value, 3) and value[0] == "most":
        return value[1] in people and is_integer(value[2]) and 0 <= value[2] <= MOST_TASKS
    if is_row_of(value, 3) and value[0] == "few":
        right = is_integer(value[1]) and 1 <= value[1] <= MOST_PEOPLE
        return right and is_lot(value[2]) and 1 <= len(value[2]) <= MOST_TASKS
    if is_row_of(value, 2) and value[0] in ("unlike", "same"):
        return is_lot(value[1]) and 2 <= len(value[1]) <= MOST_TASKS
    return False


def read_duty(line, people):
    """Return the duty that stands in this line, None if there is none."""
    words = line.split(" ")
    if words[0] == "most" and len(words) == 3:
        duty = ("most", words[1], read_integer(words[2]))
    elif words[0] == "few" and len(words) > 2:
        duty = ("few", read_integer(words[1]), tuple(sorted(words[2:])))
    else:
        duty = (words[0], tuple(sorted(words[1:])))
    return duty if is_duty(duty, people) else None


def read_may(line):
    """Return the person of this line and the tasks, as they stand, None if it is no such line."""
    words = line.split(" ")
    tasks = tuple(words[2:])
    if words[0] != "may" or not all([is_name(word) for word in words]):
        return None
    if not 1 <= len(tasks) <= MOST_TASKS or len(set(tasks)) < len(tasks):
        return None
    return (words[1], tasks)


def duty_line(duty):
    """Return the line of this duty."""
    words = []
    for told in duty:
        words.extend([str(word) for word in told] if isinstance(told, tuple) else [str(told)])
    return " ".join(words)


def may_line(person, tasks):
    """Return the line that tells who may do these tasks."""
    return " ".join(["may", person, *tasks])


def are_few(duties):
    """Return how many of these duties are few."""
    return len([duty for duty in duties if duty[0] == "few"])


def can_be_held(duty, duties):
    """Tell whether this duty can stand behind these."""
    if duty in duties or len(duties) >= MOST_DUTIES:
        return False
    return duty[0] != "few" or are_few(duties) < MOST_FEW
