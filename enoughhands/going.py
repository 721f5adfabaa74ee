"""How beginnings of a plan go on. What is done is told by the tasks of a beginning."""


def is_begun(plan, done):
    """Tell whether some tasks of the plan are done."""
    return any([task in done for task in plan.tasks])


def is_over(plan, done):
    """Tell whether all is done that the plan asks for."""
    if plan.kind == "task":
        return plan.text in done
    if plan.kind == "either":
        return any([is_over(part, done) for part in plan.parts])
    return all([is_over(part, done) for part in plan.parts])


def parts_now(plan, done):
    """Return the parts, some perhaps over, of which a task may come next."""
    if plan.kind == "then":
        return [part for part in plan.parts if not is_over(part, done)][:1]
    if plan.kind == "either" and is_begun(plan, done):
        return [part for part in plan.parts if is_begun(part, done)]
    return list(plan.parts)


def tasks_now(plan, done):
    """Return the list of all tasks that can come next."""
    if plan.kind == "task":
        return [] if plan.text in done else [plan.text]
    found = []
    for part in parts_now(plan, done):
        found.extend(tasks_now(part, done))
    return found


def next_tasks(plan, done):
    """Return the lot of all tasks that can come next."""
    return tuple(sorted(tasks_now(plan, done)))


def is_beginning(plan, value):
    """Tell whether any value is a tuple of the first tasks of a run."""
    if not isinstance(value, tuple):
        return False
    for at, task in enumerate(value):
        if task not in tasks_now(plan, value[:at]):
            return False
    return True


def is_whole_run(plan, value):
    """Tell whether any value is a run."""
    return is_beginning(plan, value) and is_over(plan, value)
