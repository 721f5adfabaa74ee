"""Point 22: steps and stairs."""

import random
import unittest

from enoughhands.errors import BadBase, BadStairs, BadSteps, BadTasks, BadTrade
from enoughhands.plans import Plan
from enoughhands.stairs import both, gain_at, no_less, stairs_of, steps_back, steps_by
from enoughhands.trades import told_back

from tests import plain


def some_steps(seed, many, most=5):
    rng = random.Random(seed)
    return [()] + [plain.any_steps(rng, rng.randint(0, most)) for _ in range(many)]


def some_stairs(rng, most=4):
    """Any stairs, whether small steps have them or not."""
    many = rng.randint(0, most)
    bases, gains = sorted(rng.sample(range(9), many)), sorted(rng.sample(range(1, 10), many))
    return tuple(zip(bases, gains))


class Steps(plain.Raises, unittest.TestCase):

    def test_stairs_of(self):
        for steps in some_steps(61, 400, 7):
            told = stairs_of(steps)
            self.assertEqual(told, plain.stairs(steps))
            for base in range(-3, plain.top(steps)):
                self.assertEqual(gain_at(told, base), plain.gain(steps, base))

    def test_steps_back(self):
        for steps in some_steps(62, 200):
            self.assertEqual(steps_back(steps), plain.back(steps))
            self.assertEqual(steps_back(steps_back(steps)), steps)

    def test_no_steps(self):
        bad = [((-1, 1),), ((0, -1),), ((3, -4),), ((1,),), ((1, 1, 1),), ((True, 1),), ((1, False),), ([1, 1],),
               [(1, 1)], (1, 1), ((1, 1), None), ((None, 1),), (("1", 1),), {(1, 1): 1}, ((2, 1), (0, -1)), "ab", 0, None]
        for value in bad + plain.odd_values(Plan("a")) + plain.near(((2, 1), (1, 0))):
            if self.is_steps(value):
                self.assertEqual(steps_back(value), plain.back(value))
            else:
                self.raises(BadSteps, value, stairs_of, value)
                self.raises(BadSteps, value, steps_back, value)

    def is_steps(self, value):
        return type(value) is tuple and all(
            type(step) is tuple and [type(part) for part in step] == [int, int] and step[0] >= 0 and sum(step) >= 0
            for step in value)

    def test_great_numbers(self):
        great = 10 ** 12
        self.assertEqual(stairs_of(((great, 5), (great + 5, 1))), ((great, 6),))
        self.assertEqual(stairs_of(((great, -great), (0, great + 1))), ((great, 1),))
        self.assertEqual(steps_back(((great, -great),)), ((0, great),))

    def test_steps_by(self):
        rng = random.Random(63)
        for _ in range(100):
            trade = plain.any_trade(rng, "abcde")
            tasks = tuple(rng.sample("abcdexy", rng.randint(0, 7)))
            self.assertEqual(steps_by(trade, tasks), plain.steps_of(trade, tasks))
            self.assertEqual(steps_back(steps_by(trade, tasks)), steps_by(told_back(trade), tasks[::-1]))
        self.assertEqual(steps_by((), ("a", "then")), ((0, 0), (0, 0)))
        self.raises(BadTrade, [], steps_by, [], None)
        self.raises(BadTasks, None, steps_by, (), None)
        self.raises(BadTasks, ("a", "a"), steps_by, trade=(), tasks=("a", "a"))

    def test_by_name(self):
        self.assertEqual(stairs_of(steps=((1, 1),)), ((1, 1),))
        self.assertEqual(steps_back(steps=((1, 1),)), ((2, -1),))
        self.assertEqual(steps_by(tasks=("a",), trade=(("a", 1, 1),)), ((1, 1),))


class Stairs(plain.Raises, unittest.TestCase):

    def test_no_stairs(self):
        bad = [((-1, 1),), ((0, 0),), ((0, -1),), ((1, 1), (1, 2)), ((1, 1), (2, 1)), ((2, 1), (1, 2)), ((1, 2), (2, 1)),
               [(1, 1)], ([1, 1],), ((True, 1),), ((0, True),), ((1,),), ((1, 1, 1),), (1, 1), None, "a", {1: 1},
               ((1, 1), None), (("1", 1),)]
        for value in bad + plain.odd_values(Plan("a")) + plain.near(((0, 1), (3, 4))):
            if plain.is_stairs(value):
                self.assertEqual(gain_at(value, 10 ** 9), value[-1][1] if value else 0)
                continue
            self.raises(BadStairs, value, gain_at, value, 0)
            self.raises(BadStairs, value, gain_at, value, None)
            for call in (no_less, both):
                self.raises(BadStairs, value, call, value, None)
                self.raises(BadStairs, value, call, ((0, 1),), value)
                self.raises(BadStairs, value, call, one=(), other=value)

    def test_bases(self):
        told = ((2, 3), (3, 4))
        for base, gain in ((-10 ** 9, 0), (-1, 0), (0, 0), (1, 0), (2, 3), (3, 4), (10 ** 9, 4)):
            self.assertEqual(gain_at(told, base), gain)
            self.assertEqual(gain_at((), base), 0)
        for value in plain.odd_values(Plan("a")):
            if type(value) is not int:
                self.raises(BadBase, value, gain_at, told, value)
        self.raises(BadBase, True, gain_at, stairs=(), base=True)
        self.assertEqual(gain_at(stairs=((0, 1),), base=0), 1)

    def test_no_less(self):
        rng = random.Random(64)
        seen = set()
        for _ in range(500):
            one, other = some_stairs(rng), some_stairs(rng)
            less = [base for base in range(-2, 10) if plain.tells(one, base) < plain.tells(other, base)]
            seen.add(bool(less))
            self.assertEqual(no_less(one, other), less[0] if less else None)
        self.assertEqual(seen, {True, False})
        self.assertIsNone(no_less(one=(), other=()))
        self.assertEqual(no_less(one=(), other=((0, 1),)), 0)
        self.assertIsNone(no_less(((0, 1),), ()))

    def test_both_by_all_ways(self):
        """Both tells the greatest sum to which any way beside one another leads, at each base."""
        for one, other in zip(some_steps(65, 250), some_steps(66, 250)):
            told = both(stairs_of(one), stairs_of(other))
            self.assertTrue(plain.is_stairs(told))
            for base in range(-2, plain.top(one + other)):
                self.assertEqual(gain_at(told, base), self.farthest(one, other, base))

    def farthest(self, one, other, base):
        """The greatest sum of nets that any first steps of both, mixed, come to at a base."""
        if base < 0:
            return 0
        seen, waiting = {(0, 0)}, [(0, 0)]
        while waiting:
            at, its = waiting.pop()
            level = base + plain.total(one[:at]) + plain.total(other[:its])
            for nearer in [(at + 1, its)] * (at < len(one) and level >= one[at][0]
                                             ) + [(at, its + 1)] * (its < len(other) and level >= other[its][0]):
                if nearer not in seen:
                    seen.add(nearer)
                    waiting.append(nearer)
        return max(plain.total(one[:at]) + plain.total(other[:its]) for at, its in seen)

    def test_both_by_going_on(self):
        """Both tells p + q, as the document finds them."""
        rng = random.Random(67)
        for _ in range(400):
            one, other = some_stairs(rng), some_stairs(rng)
            told = both(one, other)
            self.assertTrue(plain.is_stairs(told))
            self.assertEqual(told, both(other, one))
            for base in range(-3, 12):
                p = q = 0
                while (plain.tells(one, base + q), plain.tells(other, base + p)) != (p, q):
                    p, q = plain.tells(one, base + q), plain.tells(other, base + p)
                self.assertEqual(gain_at(told, base), p + q)

    def test_both_at_the_ends(self):
        self.assertEqual(both((), ()), ())
        self.assertEqual(both(one=((2, 1),), other=()), ((2, 1),))
        self.assertEqual(both((), ((0, 1), (5, 2))), ((0, 1), (5, 2)))
        self.assertEqual(both(((0, 5),), ((5, 5),)), ((0, 10),))
        self.assertEqual(both(((0, 5),), ((6, 5),)), ((0, 5), (1, 10)))
        long = tuple((2 * k, k + 1) for k in range(300))
        self.assertEqual(both(long, ())[-1], long[-1])
        self.assertEqual(both(long, long)[-1][1], 600)


if __name__ == "__main__":
    unittest.main()
