"""What integers, names and lots are."""

PLAN_WORDS = ("then", "beside", "either")


def is_integer(value):
    """Tell whether any value is an int that is not a bool."""
    return isinstance(value, int) and not isinstance(value, bool)


def is_name(value):
    """Tell whether any value is a string of 1 to 8 letters a to z."""
    if not isinstance(value, str):
        return False
    return 1 <= len(value) <= 8 and all(["a" <= sign <= "z" for sign in value])


def is_task_name(value):
    """Tell whether any value is a name that a task of a plan may have."""
    return is_name(value) and value not in PLAN_WORDS


def is_row_of(value, size):
    """Tell whether any value is a tuple of so many items."""
    return isinstance(value, tuple) and len(value) == size


def ascends(rows):
    """Tell whether each of these rows, which can be compared, is less than the next one."""
    return all([rows[at] < rows[at + 1] for at in range(len(rows) - 1)])


def are_names(value):
    """Tell whether any value is a tuple of names."""
    return isinstance(value, tuple) and all([is_name(one) for one in value])


def is_lot(value):
    """Tell whether any value is an ascending tuple of names."""
    return are_names(value) and ascends(value)


def is_said(value, word):
    """Tell whether any value is a pair of this word and something else."""
    return is_row_of(value, 2) and value[0] == word


def is_just(value, told):
    """Tell whether any value is this one, made of strings and integers: True is not 1."""
    if isinstance(told, tuple):
        return is_row_of(value, len(told)) and all([is_just(one, other) for one, other in zip(value, told)])
    return value == told and not isinstance(value, bool)
