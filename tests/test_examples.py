"""The blocks under "Examples" of the document, for the modules that have landed."""

import unittest

from samples import example_form

from wrongshown.errors import InvalidForm
from wrongshown.forms import Form
from wrongshown.rules import Rule
from wrongshown.truth import true_errors


class ExampleTests(unittest.TestCase):
    def test_the_readers_and_parts_of_a_form(self):
        form = example_form()
        self.assertEqual(
            [form.field_names(), form.readers("a"), form.parts_of("a")],
            [("a", "b"), ("b",), ("off", None, (None, "m"), None)],
        )

    def test_true_errors(self):
        form = example_form()
        self.assertEqual(
            [true_errors(form, ("on", "off")), true_errors(form, ("off", "on"))],
            [("m", "x"), (None, "far")],
        )

    def test_a_field_that_looks_at_itself(self):
        with self.assertRaises(InvalidForm) as caught:
            Form(("off", "on"), (("a", ("off", "a", (None, None), None)),))
        self.assertEqual((caught.exception.part, caught.exception.field), ("looks", "a"))
        self.assertEqual(repr(caught.exception), "InvalidForm('looks', 'a')")

    def test_the_texts_of_rules(self):
        self.assertEqual(
            [str(Rule("leave", "enter", (("b", "a"), ("a", "b")))),
             Rule.named("send leave / wipes any go").around],
            ["leave enter a/b,b/a keeps same wait", ()],
        )


if __name__ == "__main__":
    unittest.main()
