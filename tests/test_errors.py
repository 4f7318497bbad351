"""[0.6]: the classes of errors and their attributes."""

import unittest

from landways import errors

ATTRIBUTES = {
    "BadLand": "what", "BadCell": "cell", "BadCells": "what", "BadCustom": "what", "BadClause": "what",
    "BadNumber": "number", "BadCounted": "what", "BadText": "row what", "BadState": "what", "BadDeed": "what",
    "BadHistory": "index what", "NoDeed": "many", "BadPairs": "what", "BadView": "what", "BadStep": "what",
    "NoView": "view", "NotCounted": "index", "NeedsLand": "clause", "RoadCell": "cell", "BadSort": "word",
    "BadPair": "pair", "BadEvent": "index event", "NotTwoCells": "", "BadJoint": "what", "NoJointStep": "pair",
    "NoJoint": "joint", "TooWide": "what", "BadQuestion": "question", "BadTwin": "what", "BadMeasure": "measure",
    "NoTwin": "twin", "TooMany": "many", "BadSmudge": "index what", "NoFilling": "", "BadFinding": "what",
    "BadPool": "index what", "BadChoice": "what", "BadWish": "what", "NothingDone": "", "BadMark": "many",
}


class Errors(unittest.TestCase):

    def test_the_list_is_whole(self):
        found = [name for name, thing in vars(errors).items() if isinstance(thing, type)]
        self.assertEqual(sorted(found), sorted(["LandError", *ATTRIBUTES]))

    def test_what_stands_directly_under_what(self):
        self.assertEqual(errors.LandError.__bases__, (ValueError,))
        for name in ATTRIBUTES:
            self.assertEqual(getattr(errors, name).__bases__, (errors.LandError,), name)

    def test_things_of_every_kind_are_kept(self):
        things = [None, True, -1, 10 ** 40, "text", [1, [2]], {"a": 1}, {1}, object(), errors.LandError]
        for name, names in ATTRIBUTES.items():
            for k in range(len(things)):
                passed = [things[k], things[k - 1]][:len(names.split())]
                error = getattr(errors, name)(*passed)
                self.assertEqual(list(vars(error)), names.split(), name)
                for thing, kept in zip(passed, vars(error).values()):
                    self.assertIs(thing, kept, name)

    def test_attributes_can_be_passed_by_name(self):
        self.assertEqual(vars(errors.BadText(what="row", row=3)), {"row": 3, "what": "row"})

    def test_a_land_error_takes_any_number_of_things(self):
        for passed in [(), (1,), (None, [], "a", {})]:
            with self.assertRaises(ValueError):
                raise errors.LandError(*passed)

    def test_each_is_caught_as_a_land_error(self):
        for name, names in ATTRIBUTES.items():
            with self.assertRaises(errors.LandError):
                raise getattr(errors, name)(*names.split())
