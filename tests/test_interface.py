"""The interface: each name stands in its own file, with the arguments that the document lists."""

import ast
import inspect
import pathlib
import sys
import unittest

from wrongshown import (
    alike, books, counting, desk, doing, errors, forms, heals, judge, lists, live, rules, standings,
    texts, truth, verdicts,
)

# Each function with its arguments; a method stands behind the name of its class.
SIGNATURES = {
    forms: {
        "Form.__init__": "(self, words, fields, *, room=3)",
        "Form.__eq__": "(self, other)",
        "Form.field_names": "(self)",
        "Form.parts_of": "(self, name)",
        "Form.readers": "(self, name)",
        "Form.with_table": "(self, name, kind, table)",
        "Form.with_room": "(self, room)",
    },
    truth: {
        "near_entry": "(form, words, name)",
        "far_entry": "(form, name, word)",
        "true_error": "(form, words, name)",
        "true_errors": "(form, words)",
    },
    rules: {
        "Rule.__init__":
            "(self, opens, checks, around, *, wipes=False, taken='same', sending='wait')",
        "Rule.__eq__": "(self, other)",
        "Rule.__str__": "(self)",
        "Rule.with_part": "(self, part, value)",
        "Rule.named": "(text)",
        "all_rules": "()",
    },
    standings: {
        "is_standing": "(form, rule, value)",
        "is_deed": "(form, value)",
        "deeds": "(form, *, resets=True)",
    },
    doing: {
        "begin": "(form, rule)",
        "step": "(form, rule, standing, deed)",
    },
    judge: {
        "faults": "(form, rule, step)",
    },
    live: {
        "Live.__init__": "(self, form, rule, *, standing=None)",
        "Live.perform": "(self, deed)",
        "Live.leave": "(self, name)",
        "Live.send": "(self)",
        "Live.answer": "(self, k)",
        "Live.reset": "(self)",
        "Live.__getitem__": "(self, at)",
        "Live.__setitem__": "(self, at, worth)",
        "Live.__contains__": "(self, x)",
        "Live.__iadd__": "(self, other)",
        "Live.trial": "(self, deeds)",
        "Live.standing": "(self)",
        "Live.last_events": "(self)",
        "Live.deeds_done": "(self)",
        "Live.__len__": "(self)",
        "Live.seen": "(self)",
        "Live.sent": "(self)",
        "Live.undo": "(self)",
        "Live.fork": "(self)",
    },
    texts: {
        "format_form": "(form)",
        "parse_form": "(text)",
        "format_deeds": "(deeds)",
        "parse_deeds": "(text)",
    },
    books: {
        "Book.__init__": "(self, form, rule, *, resets=True, limit=2000)",
        "Book.__len__": "(self)",
        "Book.__contains__": "(self, x)",
        "Book.moves": "(self)",
        "Book.standings": "(self)",
        "Book.least_run": "(self, standing)",
        "Book.follow": "(self, standing, deed)",
        "Book.faults": "(self)",
        "Book.least_fault": "(self, kind, field)",
        "Book.is_free": "(self, kind)",
        "Book.stuck": "(self)",
        "Book.verdict": "(self)",
        "Book.deeds_between": "(self, first, second)",
        "is_closed": "(form, rule, value, *, resets=True)",
        "shows_free": "(form, rule, value, kind, *, resets=True)",
    },
    verdicts: {
        "Verdict.__init__": "(self, pairs)",
        "Verdict.pairs": "(self)",
        "Verdict.kinds": "(self)",
        "Verdict.only": "(self, kinds)",
        "Verdict.__or__": "(self, other)",
        "Verdict.__and__": "(self, other)",
        "Verdict.__sub__": "(self, other)",
        "Verdict.__xor__": "(self, other)",
        "Verdict.__eq__": "(self, other)",
        "Verdict.__len__": "(self)",
        "Verdict.__contains__": "(self, x)",
    },
    lists: {
        "needed": "(form)",
        "least_pairs": "(form, rule, kinds, *, resets=True, limit=2000)",
    },
    alike: {
        "difference": "(first, second, *, resets=True, limit=5000)",
        "alike": "(first, second, *, resets=True, limit=5000)",
        "pairing": "(first, second, *, resets=True, limit=5000)",
        "is_pairing": "(first, second, value, *, resets=True)",
        "parting": "(book, first, second)",
        "classes": "(book)",
        "rules_alike": "(form, rules, *, resets=True, limit=5000)",
    },
    counting: {
        "most_asked": "(book)",
        "never_taken": "(book)",
        "least_shown": "(book, field, message)",
        "least_sent": "(book)",
    },
    heals: {
        "is_change": "(form, rule, value)",
        "with_changes": "(form, rule, changes)",
        "heals": "(form, rule, kind, candidates, *, resets=True, limit=2000)",
        "rules_free": "(form, kinds, rules, *, resets=True, limit=2000)",
    },
    desk: {
        "Desk.__init__": "(self, form, rules, *, resets=True, limit=2000)",
        "Desk.set_bound": "(self, value)",
        "Desk.__ior__": "(self, other)",
        "Desk.__isub__": "(self, other)",
        "Desk.__getitem__": "(self, at)",
        "Desk.__setitem__": "(self, at, worth)",
        "Desk.put_form": "(self, form)",
        "Desk.__len__": "(self)",
        "Desk.undo": "(self)",
        "Desk.redo": "(self)",
        "Desk.verdicts": "(self)",
        "Desk.attempt": "(self, edits)",
    },
}
# The attributes that the interface lists, of objects that are made with what is left out.
ATTRIBUTES = {
    "Form": "words fields room", "Rule": "opens checks around wipes taken sending",
    "Step": "deed before after events", "Live": "form rule errors waiting",
    "Book": "form rule resets limit", "Desk": "current watched bound",
}
# Properties of classes; a class that is listed without one has none.
PROPERTIES = {
    forms.Form: [], rules.Rule: [], doing.Step: [], live.Live: ["errors", "waiting"], books.Book: [],
    verdicts.Verdict: [], desk.Desk: [],
}


def defined_in(module):
    """The names of the functions, and of the methods in the bodies of the classes, of a file."""
    names = []
    for node in ast.parse(pathlib.Path(module.__file__).read_text()).body:
        if isinstance(node, ast.FunctionDef):
            names.append(node.name)
        if isinstance(node, ast.ClassDef):
            names.append(node.name)
            names.extend(
                f"{node.name}.{item.name}" for item in node.body if isinstance(item, ast.FunctionDef)
            )
    return names


class InterfaceTests(unittest.TestCase):
    def test_every_name_is_defined_in_its_file_with_its_arguments(self):
        for module, signatures in SIGNATURES.items():
            names = defined_in(module)
            for name, arguments in signatures.items():
                with self.subTest(module.__name__, name=name):
                    self.assertIn(name, names)
                    found = module
                    for part in name.split("."):
                        found = getattr(found, part)
                    self.assertEqual(str(inspect.signature(found)), arguments)

    def test_the_errors_are_defined_in_their_file(self):
        names = [name for name in defined_in(errors) if "." not in name]
        self.assertEqual(len(names), 21)

    def test_the_classes_stand_under_no_other_class(self):
        for kind in PROPERTIES:
            self.assertEqual(kind.__bases__, (object,))

    def test_the_classes_are_defined_in_their_files_with_their_properties(self):
        for kind in PROPERTIES:
            module = sys.modules[kind.__module__]
            self.assertIn(module, [*SIGNATURES])
            self.assertIn(kind.__name__, defined_in(module))
            found = [name for name, item in vars(kind).items() if isinstance(item, property)]
            self.assertEqual(sorted(found), PROPERTIES[kind])

    def test_the_attributes_of_new_objects(self):
        form = forms.Form(("off", "on"), (("f", ("off", None, (None, "m"), None)),))
        rule = rules.Rule("enter", "enter", "own")
        for item in (form, rule, doing.begin(form, rule), live.Live(form, rule), books.Book(form, rule),
                     desk.Desk(form, [rule])):
            for name in ATTRIBUTES[item.__class__.__name__].split():
                self.assertTrue(hasattr(item, name), name)

    def test_every_module_of_the_document_is_here(self):
        names = sorted(module.__name__.split(".")[1] for module in [*SIGNATURES, errors])
        self.assertEqual(names, (
            "alike books counting desk doing errors forms heals judge lists live rules standings"
            " texts truth verdicts").split())

    def test_the_tuples_of_names(self):
        self.assertIsInstance(judge.KINDS, tuple)
        self.assertIsInstance(rules.PARTS, tuple)

    def test_named_is_a_class_method(self):
        self.assertIs(rules.Rule.named.__self__, rules.Rule)


if __name__ == "__main__":
    unittest.main()
