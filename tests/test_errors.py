"""Point 105, and what point 2 says of errors."""

import unittest

from enoughhands import errors
from enoughhands.errors import HandError
from enoughhands.plans import Plan

NAMES = """BadPlan, BadChoice, BadDone, BadNumber, BadRun, TooMany, Unlike, NoTask, Same, BadPairs, Wide,
BadLot, BadOther, BadName, BadTrade, BadStock, BadTasks, BadSteps, BadStairs, BadBase, NotEnough, BadRow,
NotPlain, BadRows, BadStep, NotLet, NoRun, BadCrew, NoPerson, BadTask, Known, Full, NotKnown, Last, BadDuty,
Held, NoDuty, BadDeal, Nobody, BadAway, BadStand, BadShare, NoDeal, NotSimple, BadWorks, BadDay, NoRest,
BadForeign, BadTold, BadStanding, BadOffers, NoRests, OtherWorks, Apart, BadPeople, Stuck, Away, NotNow,
Short, NotKept, Here, NothingToUndo, NothingToRedo, NoTrial, BadJournal, BadSaying""".replace("\n", " ").split(", ")

VALUES = [0, -3, 10 ** 30, True, False, None, "", "a", "then(a,b)", (), ("a", 1), [], [1, [2]], {}, {"a": (1,)},
          Plan("a"), (Plan("then(a,b)"), [None]), ((((),),),)]


class Errors(unittest.TestCase):

    def test_all_names(self):
        self.assertEqual(len(NAMES), 66)
        found = [name for name in vars(errors) if not name.startswith("_")]
        self.assertEqual(sorted(found), sorted(NAMES + ["HandError"]))

    def test_bases(self):
        self.assertEqual(HandError.__bases__, (ValueError,))
        for name in NAMES:
            with self.subTest(name):
                kind = getattr(errors, name)
                self.assertEqual(kind.__bases__, (HandError,))
                self.assertEqual(kind.__name__, name)
                self.assertEqual(kind.__module__, "enoughhands.errors")

    def test_values_are_kept(self):
        for name in ["HandError"] + NAMES:
            for value in VALUES:
                with self.subTest(name, value=value):
                    error = getattr(errors, name)(value)
                    self.assertIs(error.value, value)
                    with self.assertRaises(ValueError) as caught:
                        raise error
                    self.assertIs(caught.exception, error)

    def test_one_value_by_position(self):
        for name in ["HandError"] + NAMES:
            with self.subTest(name):
                with self.assertRaises(TypeError):
                    getattr(errors, name)()
                with self.assertRaises(TypeError):
                    getattr(errors, name)(1, 2)

    def test_each_is_none_of_the_others(self):
        for name in NAMES:
            error = getattr(errors, name)(1)
            self.assertIsInstance(error, HandError)
            for other in NAMES:
                self.assertEqual(isinstance(error, getattr(errors, other)), name == other)
        self.assertFalse(any(isinstance(HandError(1), getattr(errors, name)) for name in NAMES))


if __name__ == "__main__":
    unittest.main()
