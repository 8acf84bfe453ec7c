"""The blocks under "Examples" of the document, for the modules that have landed."""

import unittest

from samples import example_form

from wrongshown.doing import begin, step
from wrongshown.errors import InvalidForm, TooManyAsked
from wrongshown.forms import Form
from wrongshown.judge import faults
from wrongshown.live import Live
from wrongshown.rules import Rule
from wrongshown.truth import true_errors


class ExampleTests(unittest.TestCase):
    def test_the_readers_and_parts_of_a_form(self):
        form = example_form()
        self.assertEqual(
            [form.field_names(), form.readers("a"), form.parts_of("a")],
            [("a", "b"), ("b",), ("off", None, (None, "m"), None)],
        )

    def test_true_errors(self):
        form = example_form()
        self.assertEqual(
            [true_errors(form, ("on", "off")), true_errors(form, ("off", "on"))],
            [("m", "x"), (None, "far")],
        )

    def test_a_field_that_looks_at_itself(self):
        with self.assertRaises(InvalidForm) as caught:
            Form(("off", "on"), (("a", ("off", "a", (None, None), None)),))
        self.assertEqual((caught.exception.part, caught.exception.field), ("looks", "a"))
        self.assertEqual(repr(caught.exception), "InvalidForm('looks', 'a')")

    def test_the_texts_of_rules(self):
        self.assertEqual(
            [str(Rule("leave", "enter", (("b", "a"), ("a", "b")))),
             Rule.named("send leave / wipes any go").around],
            ["leave enter a/b,b/a keeps same wait", ()],
        )

    def test_the_start(self):
        self.assertEqual(
            begin(example_form(), Rule("enter", "enter", "looks")).after,
            (("off", "off"), (False, False), (None, None), (None, None), (), False),
        )

    def test_a_word_that_is_asked_about_and_its_answer(self):
        form = example_form()
        rule = Rule("enter", "enter", "looks")
        first = step(form, rule, begin(form, rule).after, ("enter", "b", "on"))
        self.assertEqual(
            [first.events, first.after],
            [(("entered", "b", "on"), ("opened", "b"), ("checked", "b", None), ("asked", "b", "on")),
             (("off", "on"), (False, True), (None, None), (None, None), (("b", "on", True),), False)],
        )
        second = step(form, rule, first.after, ("answer", 0))
        self.assertEqual(
            [second.events, second.after],
            [(("answered", "b", "on", "far", True),),
             (("off", "on"), (False, True), (None, "far"), (None, ("on", "far")), (), False)],
        )

    def test_a_send_that_waits_for_an_answer(self):
        form = example_form()
        rule = Rule("send", "leave", "own")
        first = step(form, rule, begin(form, rule).after, ("send",))
        second = step(form, rule, first.after, ("answer", 0))
        self.assertEqual(
            [first.events, second.events],
            [(("opened", "a"), ("opened", "b"), ("checked", "a", None), ("checked", "b", None),
              ("asked", "b", "off"), ("waits",)),
             (("answered", "b", "off", None, True), ("sent", ("off", "off")))],
        )

    def test_faults_of_an_elder_answer(self):
        form = example_form()
        rule = Rule("enter", "leave", "own", taken="any")
        first = step(form, rule, begin(form, rule).after, ("enter", "b", "on"))
        second = step(form, rule, first.after, ("leave", "b"))
        third = step(form, rule, second.after, ("enter", "b", "off"))
        fourth = step(form, rule, third.after, ("answer", 0))
        self.assertEqual(
            [fourth.events, faults(form, rule, fourth)],
            [(("answered", "b", "on", "far", True),), [("stale", "b"), ("elder", "b")]],
        )

    def test_a_send_that_is_refused(self):
        right = ("off", None, (None, None), (None, None))
        form = Form(("off", "on"), (("c", right), ("d", right)), room=1)
        rule = Rule("send", "leave", "own")
        with self.assertRaises(TooManyAsked) as caught:
            step(form, rule, begin(form, rule).after, ("send",))
        self.assertEqual(repr(caught.exception), "TooManyAsked('d')")

    def test_a_live_form(self):
        live = Live(example_form(), Rule("enter", "enter", "own"))
        live += [("enter", "a", "on"), ("reset",), ("enter", "a", "on")]
        self.assertEqual(
            [live.errors, live["a"], len(live), live.trial([("send",)])],
            [{"a": "m"}, "on", 3, [("m", "x")]],
        )


if __name__ == "__main__":
    unittest.main()
