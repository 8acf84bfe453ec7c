"""Point 3: the classes of the errors, what they stand under and what they hold."""

import inspect
import unittest

from wrongshown import errors

# Each class with the names of its arguments.
CLASSES = {
    "InvalidForm": ("part", "field"),
    "InvalidRule": ("part",),
    "InvalidWords": ("words",),
    "InvalidStanding": (),
    "InvalidDeed": ("deed",),
    "InvalidTable": ("kind",),
    "InvalidText": ("line",),
    "UnknownField": ("field",),
    "UnknownWord": ("word",),
    "TooManyAsked": ("field",),
    "NothingToUndo": (),
    "NothingToRedo": (),
    "InvalidBound": ("value",),
    "LimitExceeded": ("limit",),
    "NoStanding": (),
    "NoFault": ("kind", "field"),
    "InvalidKind": ("kind",),
    "NotComparable": ("part",),
    "InvalidChange": ("index",),
    "InvalidRules": (),
}


class ErrorTests(unittest.TestCase):
    def test_there_are_the_twenty_classes_and_their_base(self):
        found = [name for name, item in vars(errors).items() if inspect.isclass(item)]
        self.assertEqual(len(CLASSES), 20)
        self.assertEqual(sorted(found), sorted([*CLASSES, "ShownError"]))
        for name in found:
            self.assertEqual(getattr(errors, name).__module__, "wrongshown.errors")

    def test_the_base_stands_directly_under_value_error(self):
        self.assertEqual(errors.ShownError.__bases__, (ValueError,))

    def test_every_class_stands_directly_under_the_base(self):
        for name in CLASSES:
            with self.subTest(name):
                self.assertEqual(getattr(errors, name).__bases__, (errors.ShownError,))

    def test_no_class_is_one_of_the_others(self):
        for name in CLASSES:
            for other in CLASSES:
                with self.subTest(name, other=other):
                    kin = issubclass(getattr(errors, name), getattr(errors, other))
                    self.assertEqual(kin, name == other)

    def test_the_attributes_have_the_names_of_the_arguments(self):
        for name, arguments in CLASSES.items():
            for values in (("near", "b"), (0, True), ([1], {"a": ()}), (10 ** 5000, None)):
                with self.subTest(name, kinds=[type(value) for value in values]):
                    passed = values[:len(arguments)]
                    error = getattr(errors, name)(*passed)
                    self.assertEqual(list(vars(error)), list(arguments))
                    for argument, value in zip(arguments, passed):
                        self.assertIs(getattr(error, argument), value)

    def test_arguments_may_be_passed_by_keyword(self):
        for name, arguments in CLASSES.items():
            with self.subTest(name):
                error = getattr(errors, name)(**{argument: argument for argument in arguments})
                self.assertEqual(vars(error), {argument: argument for argument in arguments})

    def test_each_class_takes_just_its_arguments(self):
        for name, arguments in CLASSES.items():
            with self.subTest(name):
                if arguments:
                    self.assertRaises(TypeError, getattr(errors, name))
                    self.assertRaises(TypeError, getattr(errors, name), *arguments, "more")

    def test_an_error_is_caught_as_its_bases(self):
        for base in (errors.InvalidForm, errors.ShownError, ValueError):
            with self.assertRaises(base):
                raise errors.InvalidForm("words", "")
        with self.assertRaises(errors.NoStanding):
            raise errors.NoStanding()

    def test_the_error_shows_its_arguments(self):
        self.assertEqual(repr(errors.InvalidForm("looks", "a")), "InvalidForm('looks', 'a')")
        self.assertEqual(repr(errors.InvalidText(5)), "InvalidText(5)")


if __name__ == "__main__":
    unittest.main()
