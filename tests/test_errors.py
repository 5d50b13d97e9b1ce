import inspect
import unittest

from thinslopes import errors
from thinslopes.errors import SlopeError

ATTRIBUTES = {
    "BadRatio": ["what"], "BadMould": ["what", "index"], "BadLetter": ["letter"], "BadNumbers": ["index"],
    "BadCell": ["cell"], "BadOrder": ["what"], "BadWeb": ["what", "index"], "BadPoint": ["point"],
    "BadTie": ["tie"], "BadGrouping": ["index"], "BadCount": ["count"], "BadAsk": ["index", "what"],
    "BadText": ["index"], "BadAnswers": ["index", "what"], "BadModulus": ["modulus"], "NotFree": [],
    "NotColumns": ["index"], "NoGroup": ["group"], "BadWalk": ["what"], "NoAnswer": ["answer"],
    "CantTake": ["letter"], "BadMost": ["most"], "TooMany": ["count"], "BadBudget": ["what"],
    "BadLines": ["index"], "BadBlock": ["what"], "BadWay": ["way"], "BadPoints": ["index"],
    "BadPlan": ["path", "what"], "BadPath": [], "BadStranger": ["index"], "BadPoly": ["what", "index"],
    "UnlikePolys": [], "BadValues": ["index"], "NoEntry": ["entry"], "NoResult": ["result"],
    "BadProgram": ["what", "index"], "BadChain": [], "BadAlong": ["index"], "TooGreat": ["many"],
    "BadShape": [], "BadEdit": ["index", "what"], "BadGoal": ["what"], "BadBench": [], "Clashing": ["weights"],
    "NoAnswers": [], "NothingDone": [],
}


class ErrorsTest(unittest.TestCase):
    """Point 0.6 and the row of error classes in the interface."""

    def test_the_errors_are_these_and_no_others(self):
        classes = [name for name, thing in vars(errors).items() if inspect.isclass(thing)]
        self.assertEqual(sorted(classes), sorted([*ATTRIBUTES, "SlopeError"]))

    def test_slope_error_stands_directly_under_value_error(self):
        self.assertEqual(SlopeError.__bases__, (ValueError,))

    def test_each_error_stands_directly_under_slope_error(self):
        for name in ATTRIBUTES:
            self.assertEqual(getattr(errors, name).__bases__, (SlopeError,), name)

    def test_attributes_are_taken_in_the_told_order(self):
        for name, attributes in ATTRIBUTES.items():
            things = [object() for attribute in attributes]
            error = getattr(errors, name)(*things)
            self.assertEqual(list(vars(error).items()), list(zip(attributes, things)), name)

    def test_attributes_are_taken_by_name(self):
        for name, attributes in ATTRIBUTES.items():
            things = {attribute: object() for attribute in reversed(attributes)}
            self.assertEqual(vars(getattr(errors, name)(**things)), things, name)

    def test_each_attribute_must_be_given(self):
        for name, attributes in ATTRIBUTES.items():
            if attributes:
                with self.assertRaises(TypeError):
                    getattr(errors, name)(*attributes[1:])

    def test_nothing_is_checked(self):
        self.assertEqual(errors.BadMould([3], None).what, [3])

    def test_an_error_is_caught_as_slope_error_and_as_value_error(self):
        for kind in (SlopeError, ValueError):
            with self.assertRaises(kind):
                raise errors.NotFree()
