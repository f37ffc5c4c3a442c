import unittest

from manydeep import errors

PARAMETERS = {
    "BadWeb": ("thing",), "BadGrowth": ("thing",), "BadBook": ("thing",), "BadGarden": ("thing",),
    "BadRenaming": ("thing",), "BadText": ("at",), "TooMany": ("most",), "BadNumber": ("thing",),
    "BadModulus": ("thing",), "BadRow": ("thing",), "BadAddress": ("thing",), "BadPlace": ("thing",),
    "BadWish": ("thing",), "BadMarks": ("thing",), "BadPlan": ("thing",), "BadCount": ("thing",),
    "BadKind": ("thing",), "BadTies": ("thing",), "BadTie": ("thing",), "BadShelf": ("thing",),
    "BadFacts": ("thing",), "NoneLeft": (), "BadChange": ("at",), "Unkept": ("wish", "n"), "Full": (),
    "LastKind": (), "InUse": ("c",), "NothingToUndo": (), "NothingToRedo": (),
}
VALUES = (None, True, False, 0, -1, 10 ** 99, "", "text\n", (), (1, (2, "x")), [1, [2]], {"a": {1: ()}}, object())


class Errors(unittest.TestCase):
    def test_garden_error_is_an_exception_and_nothing_else(self):
        self.assertEqual(errors.GardenError.__bases__, (Exception,))
        self.assertEqual(errors.GardenError.__module__, "manydeep.errors")

    def test_each_error_is_a_direct_subclass(self):
        for name in PARAMETERS:
            made = getattr(errors, name)
            self.assertEqual(made.__bases__, (errors.GardenError,), name)
            self.assertEqual((made.__name__, made.__module__), (name, "manydeep.errors"))

    def test_there_are_no_other_classes(self):
        found = {name for name, thing in vars(errors).items() if isinstance(thing, type)}
        self.assertEqual(found, set(PARAMETERS) | {"GardenError"})

    def test_parameters_by_position_and_by_name_are_attributes(self):
        for name, parameters in PARAMETERS.items():
            for at in range(len(VALUES)):
                worths = [VALUES[(at + step) % len(VALUES)] for step in range(len(parameters))]
                named = dict(zip(parameters, worths))
                for error in (getattr(errors, name)(*worths), getattr(errors, name)(**named)):
                    self.assertEqual(set(vars(error)), set(parameters))
                    for parameter, worth in named.items():
                        self.assertIs(getattr(error, parameter), worth)

    def test_no_fewer_and_no_more_parameters(self):
        for name, parameters in PARAMETERS.items():
            with self.assertRaises(TypeError):
                getattr(errors, name)(*([0] * (len(parameters) + 1)))
            with self.assertRaises(TypeError):
                getattr(errors, name)(*([0] * len(parameters)), other=1)
            if parameters:
                with self.assertRaises(TypeError):
                    getattr(errors, name)(*([0] * (len(parameters) - 1)))

    def test_they_can_be_raised_and_caught_by_the_base_class(self):
        for name, parameters in PARAMETERS.items():
            with self.assertRaises(errors.GardenError) as caught:
                raise getattr(errors, name)(*([7] * len(parameters)))
            self.assertEqual(vars(caught.exception), {parameter: 7 for parameter in parameters})


if __name__ == "__main__":
    unittest.main()
