"""What the document says, gone through plainly: all runs, all beginnings, all ways beside one another.

Nothing here calls the package, so that both can be compared.
"""

import ast
import itertools
import random

KINDS = ("then", "beside", "either")


def tree(text):
    """A plan as nested tuples: a name, or (kind, trees)."""
    def taken(node):
        if isinstance(node, ast.Name):
            return node.id
        return (node.func.id, [taken(part) for part in node.args])
    return taken(ast.parse(text, mode="eval").body)


def shuffles(one, other):
    """All ways in which two tuples go on beside one another."""
    if not one or not other:
        return [one + other]
    return ([one[:1] + rest for rest in shuffles(one[1:], other)]
            + [other[:1] + rest for rest in shuffles(one, other[1:])])


def tree_runs(shape):
    if isinstance(shape, str):
        return [(shape,)]
    kind, parts = shape
    found = [tree_runs(part) for part in parts]
    if kind == "either":
        return [run for runs in found for run in runs]
    done = [()]
    for runs in found:
        if kind == "then":
            done = [ahead + run for ahead in done for run in runs]
        else:
            done = [mixed for ahead in done for run in runs for mixed in shuffles(ahead, run)]
    return done


def runs(text):
    """All runs, ascending."""
    return sorted(tree_runs(tree(text)))


def beginnings(text):
    """All beginnings, ascending."""
    return sorted({run[:many] for run in runs(text) for many in range(len(run) + 1)})


def lot(tasks):
    return tuple(sorted(tasks))


def tree_tasks(shape):
    return [shape] if isinstance(shape, str) else [t for part in shape[1] for t in tree_tasks(part)]


def tree_text(shape):
    if isinstance(shape, str):
        return shape
    return f"{shape[0]}({','.join(tree_text(part) for part in shape[1])})"


def chosen_text(text, choice):
    def taken(shape):
        if isinstance(shape, str):
            return shape
        if shape[0] == "either":
            return taken(next(part for part in shape[1] if set(tree_tasks(part)) & set(choice)))
        return (shape[0], [taken(part) for part in shape[1]])
    return tree_text(taken(tree(text)))


def rest_text(text, done):
    """What is left, told by taking out one task after the other."""
    def without(shape, task):
        if task not in tree_tasks(shape):
            return shape
        if isinstance(shape, str):
            return None
        if shape[0] == "either":
            return without(next(part for part in shape[1] if task in tree_tasks(part)), task)
        parts = [p for p in (without(part, task) for part in shape[1]) if p is not None]
        return parts[0] if len(parts) == 1 else (shape[0], parts)
    shape = tree(text)
    for task in done:
        shape = without(shape, task)
    return None if shape is None else tree_text(shape)


def word(all_runs, one, other):
    """The word of two tasks, by the runs alone."""
    found = {run.index(one) < run.index(other) for run in all_runs if one in run and other in run}
    return {(): "either", (True,): "ahead", (False,): "behind", (False, True): "beside"}[
        tuple(sorted(found))]


def words(text):
    found = runs(text)
    tasks = sorted(tree_tasks(tree(text)))
    return tuple((one, other, word(found, one, other)) for one, other in itertools.combinations(tasks, 2))


def all_plans(tasks):
    """The texts of plans of just these tasks, some of each set of runs that plans of them have."""
    if len(tasks) == 1:
        return [tasks[0]]
    texts = []
    for many in range(1, len(tasks)):
        for ahead in itertools.combinations(tasks, many):
            behind = tuple(task for task in tasks if task not in ahead)
            for one in all_plans(ahead):
                for other in all_plans(behind):
                    texts += [f"{kind}({one},{other})" for kind in KINDS if kind == "then" or one < other]
    return texts


def distance(all_runs, one, other):
    """How many exchanges of two neighbours lead from one run to another one, on runs alone (None: none does)."""
    known, wave, steps = {one}, [one], 0
    while other not in known:
        if not wave:
            return None
        steps += 1
        wave = [run for run in all_runs if run not in known and any(neighbours(run, old) for old in wave)]
        known.update(wave)
    return steps


def neighbours(one, other):
    if len(one) != len(other):
        return False
    unlike = [at for at in range(len(one)) if one[at] != other[at]]
    return (len(unlike) == 2 and unlike[1] == unlike[0] + 1
            and (one[unlike[0]], one[unlike[1]]) == (other[unlike[1]], other[unlike[0]]))


def ways(shape):
    """How many choices there are."""
    if isinstance(shape, str):
        return 1
    numbers = [ways(part) for part in shape[1]]
    if shape[0] == "either":
        return sum(numbers)
    many = 1
    for number in numbers:
        many *= number
    return many


def any_text(rng, names, kinds=KINDS):
    """The text of any plan of these tasks with at most eight choices."""
    def grow(tasks):
        if len(tasks) == 1:
            return tasks[0]
        cuts = sorted(rng.sample(range(1, len(tasks)), rng.randint(1, min(3, len(tasks) - 1))))
        return (rng.choice(kinds), [grow(tasks[low:high])
                                    for low, high in zip([0] + cuts, cuts + [len(tasks)])])
    while True:
        tasks = list(names)
        rng.shuffle(tasks)
        shape = grow(tasks)
        if ways(shape) <= 8:
            return tree_text(shape)


def some_texts(seed, many, most=6, kinds=KINDS):
    """Texts of so many plans of one to most tasks; each seed gives the same ones."""
    rng = random.Random(seed)
    return [any_text(rng, "abcdefgh"[:rng.randint(1, most)], kinds) for _ in range(many)]


# Trades and steps.

def any_trade(rng, names, most=6):
    """Any trade of some of these names, with small numbers."""
    lines = []
    for name in sorted(names):
        if rng.random() < 0.85:
            need, after = rng.randint(0, most), rng.randint(0, most)
            lines.append((name, need, after - need))
    return tuple(lines)


def any_steps(rng, many, most=6):
    steps = []
    for _ in range(many):
        need, after = rng.randint(0, most), rng.randint(0, most)
        steps.append((need, after - need))
    return tuple(steps)


def steps_of(trade, tasks):
    table = {task: (need, net) for task, need, net in trade}
    return tuple(table.get(task, (0, 0)) for task in tasks)


def level_behind(stock, steps):
    """The level behind these steps, None if they are not let."""
    for need, net in steps:
        if stock < need:
            return None
        stock += net
    return stock


def is_let(stock, steps):
    return level_behind(stock, steps) is not None


def least(steps):
    """The least level at which these steps are let: one after the other is tried."""
    return next(level for level in itertools.count() if is_let(level, steps))


def gain(steps, base):
    """The greatest sum of the first steps that are let at this base."""
    if base < 0:
        return 0
    return max(level_behind(base, steps[:many]) - base
               for many in range(len(steps) + 1) if is_let(base, steps[:many]))


def back(steps):
    return tuple((need + net, -net) for need, net in reversed(steps))


def total(steps):
    return sum(net for need, net in steps)


def top(steps):
    """A base from which on nothing changes any more."""
    return sum(need + abs(net) for need, net in steps) + 1


def stairs(steps):
    pairs, known = [], 0
    for base in range(top(steps)):
        if gain(steps, base) > known:
            known = gain(steps, base)
            pairs.append((base, known))
    return tuple(pairs)


def row(steps):
    return (least(steps), total(steps), stairs(steps), stairs(back(steps)))


def tells(stairs_told, base):
    return max([gained for low, gained in stairs_told if low <= base], default=0)


def no_worse(one, other):
    """Whether the row one has first no greater, and both gains at no base less."""
    bases = range(max([pair[0] for row_told in (one, other) for side in row_told[2:] for pair in side],
                      default=0) + 1)
    return one[0] <= other[0] and all(
        tells(one[side], base) >= tells(other[side], base) for side in (2, 3) for base in bases)


# Values of all kinds, and values near to others.

def odd_values(*objects):
    """Values of many kinds, of which few are right anywhere."""
    plain = [0, 1, -1, 7, 99999, 100000, True, False, None, "", "a", "b", "A", "a b", "then", "either",
             "then(a,b)", "then(a,a)", "beside(a)", "a,b", "run", "stuck", (), ("a",), ("b",), ("a", "b"),
             ("b", "a"), ("a", "a"), [], ["a"], ["a", "b"], {}, {"a": 1}, {"a": ("b",)}, ((),), (("a",),),
             ([],), ("same",), ("within",), ("alike",), ("never",), ["same"], ("apart", ("a",)),
             ("more", 0, 0), ("more", True, 0), ("parts", 1, 0), ("rows", ()), ("plan", "a"), ("stuck", ()),
             ("stuck", ((),)), ("run", ()), ("first", 0, ()), (("a", 1, 1),), (("a", True, 0),), ((0, 1),),
             ((True, 1),), (0, 0, (), ()), (False, 0, (), ()), (None,), ((((("a",),),),),)]
    return plain + [thing for one in objects for thing in (one, (one,), [one], ("a", one), {"a": one})]


def near(value):
    """Values near to this one: each with one thing changed somewhere."""
    return [changed for changed in changes(value) if not alike(changed, value)]


def changes(value):
    if isinstance(value, bool) or value is None:
        return
    if isinstance(value, int):
        yield from (value + 1, value - 1, -value, str(value), None, (value,))
        if value in (0, 1):
            yield bool(value)
    elif isinstance(value, str):
        yield from (value + "a", value[:-1], value.upper() + "A", (value,), "a", 0, None)
    elif isinstance(value, (tuple, list)):
        items = tuple(value)
        yield from (list(items), items + items[-1:], items[1:], items[:-1], items[::-1], (items,), None)
        for at, item in enumerate(items):
            for changed in near(item):
                yield items[:at] + (changed,) + items[at + 1:]


def alike(one, other):
    """Whether two values are equal and of the same kinds throughout."""
    if type(one) is not type(other) or one != other:
        return False
    if isinstance(one, (tuple, list)):
        return all(alike(a, b) for a, b in zip(one, other))
    return True


def is_int(value):
    return type(value) is int


def is_stairs(value):
    """Whether a value is stairs, told at length."""
    if type(value) is not tuple or not all(
            type(pair) is tuple and [type(part) for part in pair] == [int, int] for pair in value):
        return False
    bases, gains = [pair[0] for pair in value], [pair[1] for pair in value]
    return (bases == sorted(set(bases)) and gains == sorted(set(gains))
            and all(base >= 0 for base in bases) and all(gain > 0 for gain in gains))


class Raises:
    """For test cases: whether a call raises just this error, with this value."""

    def raises(self, kind, value, call, /, *args, **more):
        try:
            got = call(*args, **more)
        except Exception as error:
            self.assertIs(type(error), kind, f"{error!r} of {args!r}")
            self.assertTrue(error.value is value or alike(error.value, value),
                            f"{error.value!r} instead of {value!r}")
        else:
            self.fail(f"{got!r} instead of {kind.__name__} for {args!r} {more!r}")
