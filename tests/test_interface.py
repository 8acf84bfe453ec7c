"""The interface: each name stands in its own file, with the arguments that the document lists."""

import ast
import inspect
import pathlib
import unittest

from wrongshown import errors, forms, rules, truth

# Each function with its arguments; a method stands behind the name of its class.
SIGNATURES = {
    forms: {
        "Form.__init__": "(self, words, fields, *, room=3)",
        "Form.__eq__": "(self, other)",
        "Form.field_names": "(self)",
        "Form.parts_of": "(self, name)",
        "Form.readers": "(self, name)",
        "Form.with_table": "(self, name, kind, table)",
        "Form.with_room": "(self, room)",
    },
    truth: {
        "near_entry": "(form, words, name)",
        "far_entry": "(form, name, word)",
        "true_error": "(form, words, name)",
        "true_errors": "(form, words)",
    },
    rules: {
        "Rule.__init__":
            "(self, opens, checks, around, *, wipes=False, taken='same', sending='wait')",
        "Rule.__eq__": "(self, other)",
        "Rule.__str__": "(self)",
        "Rule.with_part": "(self, part, value)",
        "Rule.named": "(text)",
        "all_rules": "()",
    },
}


def defined_in(module):
    """The names of the functions, and of the methods in the bodies of the classes, of a file."""
    names = []
    for node in ast.parse(pathlib.Path(module.__file__).read_text()).body:
        if isinstance(node, ast.FunctionDef):
            names.append(node.name)
        if isinstance(node, ast.ClassDef):
            names.append(node.name)
            names.extend(
                f"{node.name}.{item.name}" for item in node.body if isinstance(item, ast.FunctionDef)
            )
    return names


class InterfaceTests(unittest.TestCase):
    def test_every_name_is_defined_in_its_file_with_its_arguments(self):
        for module, signatures in SIGNATURES.items():
            names = defined_in(module)
            for name, arguments in signatures.items():
                with self.subTest(module.__name__, name=name):
                    self.assertIn(name, names)
                    found = module
                    for part in name.split("."):
                        found = getattr(found, part)
                    self.assertEqual(str(inspect.signature(found)), arguments)

    def test_the_errors_are_defined_in_their_file(self):
        names = [name for name in defined_in(errors) if "." not in name]
        self.assertEqual(len(names), 21)

    def test_the_classes_stand_under_no_other_class(self):
        self.assertEqual(forms.Form.__bases__, (object,))
        self.assertEqual(rules.Rule.__bases__, (object,))

    def test_named_is_a_class_method(self):
        self.assertIs(rules.Rule.named.__self__, rules.Rule)


if __name__ == "__main__":
    unittest.main()
