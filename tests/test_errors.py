"""The error classes: what they derive from and what they keep."""

import unittest

from tests.samples import JUNK
from unlikekeys import errors

ARGUMENTS = {
    "BadWorld": "value", "BadPattern": "value", "NoStand": "value", "BadSchemes": "value", "BadRun": "index",
    "BadCase": "value", "BadStands": "value", "NoScheme": "value", "BadOffer": "value", "BadOptions": "value",
    "BadPrices": "value", "BadFree": "value", "BadHouses": "value", "NoKey": "value", "NoDoer": "value",
    "NoLetter": "value", "NoLapse": "value", "NoEvent": "event", "BadHistory": "value", "BadTime": "value",
    "NoOrder": "key", "BadRows": "value", "BadDeed": "value", "BadText": "line", "NoLine": "value",
}


class Errors(unittest.TestCase):
    def test_root(self):
        self.assertEqual(errors.UnlikeError.__bases__, (ValueError,))

    def test_each_is_directly_below_the_root(self):
        for name in (*ARGUMENTS, "NothingToUndo"):
            self.assertEqual(getattr(errors, name).__bases__, (errors.UnlikeError,), name)

    def test_there_are_no_others(self):
        found = {name for name, thing in vars(errors).items() if isinstance(thing, type)}
        self.assertEqual(found, {*ARGUMENTS, "NothingToUndo", "UnlikeError"})

    def test_each_is_defined_in_this_file(self):
        for name in (*ARGUMENTS, "NothingToUndo", "UnlikeError"):
            self.assertEqual(getattr(errors, name).__module__, "unlikekeys.errors")

    def test_argument_by_position_and_by_name(self):
        for name, argument in ARGUMENTS.items():
            make = getattr(errors, name)
            for value in (*JUNK, (1, "two"), "name", 0):
                self.assertIs(getattr(make(value), argument), value)
                self.assertIs(getattr(make(**{argument: value}), argument), value)

    def test_nothing_else_is_kept(self):
        for name, argument in ARGUMENTS.items():
            self.assertEqual(list(vars(getattr(errors, name)(5))), [argument])
        self.assertEqual(vars(errors.NothingToUndo()), {})

    def test_argument_is_needed(self):
        for name in ARGUMENTS:
            with self.assertRaises(TypeError):
                getattr(errors, name)()

    def test_each_can_be_raised(self):
        for name, argument in ARGUMENTS.items():
            with self.assertRaises(errors.UnlikeError) as caught:
                raise getattr(errors, name)(["x"])
            self.assertEqual(getattr(caught.exception, argument), ["x"])
        with self.assertRaises(ValueError):
            raise errors.NothingToUndo()
