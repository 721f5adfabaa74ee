"""The text of a plan: how it is taken apart and put together."""

from enoughhands.checks import PLAN_WORDS, is_task_name

MOST = 8


def pieces(text):
    """Return the kind of a plan, and the texts of its parts; None for what can be no plan.

    Whether the parts are plans is left open.
    """
    if is_task_name(text):
        return ("task", ())
    # Each bracket parts tasks, so a plan of eight tasks has seven at most: without
    # this bound a long text could lead too deep.
    if not isinstance(text, str) or text.count("(") >= MOST:
        return None
    word, _, behind = text.partition("(")
    if word not in PLAN_WORDS or not behind.endswith(")"):
        return None
    parts = parted(behind[:-1])
    if len(parts) < 2:
        return None
    return (word, parts)


def parted(text):
    """Return the tuple of what stands between the commas outside of all brackets."""
    parts = []
    depth = 0
    begun = 0
    for at, sign in enumerate(text):
        if sign == "(":
            depth += 1
        elif sign == ")":
            depth -= 1
        elif sign == "," and depth == 0:
            parts.append(text[begun:at])
            begun = at + 1
    parts.append(text[begun:])
    return tuple(parts)


def bracketed(kind, texts):
    """Return the text of the plan of this kind with these parts."""
    return kind + "(" + ",".join(texts) + ")"


def ways_together(kind, numbers):
    """Return how many choices a plan of this kind has, of whose parts so many are told."""
    if kind == "either":
        return sum(numbers)
    together = 1
    for number in numbers:
        together = together * number
    return together


def chosen_text(plan, choice):
    """Return the text of the plan in which each either is the part that this choice takes."""
    if plan.kind == "task":
        return plan.text
    if plan.kind == "either":
        taken = [part for part in plan.parts if any([task in choice for task in part.tasks])]
        return chosen_text(taken[0], choice)
    return bracketed(plan.kind, [chosen_text(part, choice) for part in plan.parts])


def rest_text(plan, done):
    """Return the text of what is left behind the tasks of a beginning, None for nothing."""
    if plan.kind == "task":
        return None if plan.text in done else plan.text
    if plan.kind == "either":
        begun = [part for part in plan.parts if any([task in done for task in part.tasks])]
        return rest_text(begun[0], done) if begun else plan.text
    texts = [rest_text(part, done) for part in plan.parts]
    texts = [text for text in texts if text is not None]
    if len(texts) < 2:
        return texts[0] if texts else None
    return bracketed(plan.kind, texts)
