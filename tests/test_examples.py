"""The blocks under "Examples" of the document."""

import unittest

from samples import example_form

from wrongshown.alike import classes, difference, parting
from wrongshown.books import Book, is_closed, shows_free
from wrongshown.counting import least_sent, least_shown, most_asked
from wrongshown.desk import Desk
from wrongshown.doing import begin, step
from wrongshown.errors import InvalidForm, InvalidText, LimitExceeded, TooManyAsked
from wrongshown.forms import Form
from wrongshown.heals import heals, rules_free
from wrongshown.judge import faults
from wrongshown.lists import least_pairs, needed
from wrongshown.live import Live
from wrongshown.rules import Rule
from wrongshown.texts import format_deeds, format_form, parse_form
from wrongshown.truth import true_errors
from wrongshown.verdicts import Verdict


def short_form():
    """The form of the examples of books: one field, whose first word is wrong."""
    return Form(("off", "on"), (("f", ("off", None, ("m", None), None)),))


class ExampleTests(unittest.TestCase):
    def test_the_readers_and_parts_of_a_form(self):
        form = example_form()
        self.assertEqual(
            [form.field_names(), form.readers("a"), form.parts_of("a")],
            [("a", "b"), ("b",), ("off", None, (None, "m"), None)],
        )

    def test_true_errors(self):
        form = example_form()
        self.assertEqual(
            [true_errors(form, ("on", "off")), true_errors(form, ("off", "on"))],
            [("m", "x"), (None, "far")],
        )

    def test_a_field_that_looks_at_itself(self):
        with self.assertRaises(InvalidForm) as caught:
            Form(("off", "on"), (("a", ("off", "a", (None, None), None)),))
        self.assertEqual((caught.exception.part, caught.exception.field), ("looks", "a"))
        self.assertEqual(repr(caught.exception), "InvalidForm('looks', 'a')")

    def test_the_texts_of_rules(self):
        self.assertEqual(
            [str(Rule("leave", "enter", (("b", "a"), ("a", "b")))),
             Rule.named("send leave / wipes any go").around],
            ["leave enter a/b,b/a keeps same wait", ()],
        )

    def test_the_start(self):
        self.assertEqual(
            begin(example_form(), Rule("enter", "enter", "looks")).after,
            (("off", "off"), (False, False), (None, None), (None, None), (), False),
        )

    def test_a_word_that_is_asked_about_and_its_answer(self):
        form = example_form()
        rule = Rule("enter", "enter", "looks")
        first = step(form, rule, begin(form, rule).after, ("enter", "b", "on"))
        self.assertEqual(
            [first.events, first.after],
            [(("entered", "b", "on"), ("opened", "b"), ("checked", "b", None), ("asked", "b", "on")),
             (("off", "on"), (False, True), (None, None), (None, None), (("b", "on", True),), False)],
        )
        second = step(form, rule, first.after, ("answer", 0))
        self.assertEqual(
            [second.events, second.after],
            [(("answered", "b", "on", "far", True),),
             (("off", "on"), (False, True), (None, "far"), (None, ("on", "far")), (), False)],
        )

    def test_a_send_that_waits_for_an_answer(self):
        form = example_form()
        rule = Rule("send", "leave", "own")
        first = step(form, rule, begin(form, rule).after, ("send",))
        second = step(form, rule, first.after, ("answer", 0))
        self.assertEqual(
            [first.events, second.events],
            [(("opened", "a"), ("opened", "b"), ("checked", "a", None), ("checked", "b", None),
              ("asked", "b", "off"), ("waits",)),
             (("answered", "b", "off", None, True), ("sent", ("off", "off")))],
        )

    def test_faults_of_an_elder_answer(self):
        form = example_form()
        rule = Rule("enter", "leave", "own", taken="any")
        first = step(form, rule, begin(form, rule).after, ("enter", "b", "on"))
        second = step(form, rule, first.after, ("leave", "b"))
        third = step(form, rule, second.after, ("enter", "b", "off"))
        fourth = step(form, rule, third.after, ("answer", 0))
        self.assertEqual(
            [fourth.events, faults(form, rule, fourth)],
            [(("answered", "b", "on", "far", True),), [("stale", "b"), ("elder", "b")]],
        )

    def test_a_send_that_is_refused(self):
        right = ("off", None, (None, None), (None, None))
        form = Form(("off", "on"), (("c", right), ("d", right)), room=1)
        rule = Rule("send", "leave", "own")
        with self.assertRaises(TooManyAsked) as caught:
            step(form, rule, begin(form, rule).after, ("send",))
        self.assertEqual(repr(caught.exception), "TooManyAsked('d')")

    def test_a_live_form(self):
        live = Live(example_form(), Rule("enter", "enter", "own"))
        live += [("enter", "a", "on"), ("reset",), ("enter", "a", "on")]
        self.assertEqual(
            [live.errors, live["a"], len(live), live.trial([("send",)])],
            [{"a": "m"}, "on", 3, [("m", "x")]],
        )

    def test_the_text_of_a_form(self):
        self.assertEqual(
            format_form(example_form()),
            "words off on\nroom 3\nfield a\nfirst off\nalone\nnear - m\n"
            "field b\nfirst off\nlooks a\nnear - x\nnear - -\nfar - far\n",
        )

    def test_a_text_that_is_none_of_a_form(self):
        with self.assertRaises(InvalidText) as caught:
            parse_form("words off on\nroom 3\nfield a\nfirst off\nnear - m\n")
        self.assertEqual(caught.exception.line, 5)
        self.assertEqual(repr(caught.exception), "InvalidText(5)")

    def test_the_text_of_deeds(self):
        self.assertEqual(
            format_deeds([("enter", "a", "on"), ("answer", 2), ("send",)]),
            "enter a on\nanswer 2\nsend\n",
        )

    def test_a_book(self):
        book = Book(short_form(), Rule("enter", "leave", "own"))
        self.assertEqual([len(book), book.faults()], [5, [("unshown", "f"), ("stale", "f")]])
        self.assertEqual(book.least_fault("stale", "f"), (("leave", "f"), ("enter", "f", "on")))
        self.assertEqual(book.standings()[4], (("on",), (True,), ("m",), (None,), (), False))
        self.assertEqual(
            book.deeds_between(book.standings()[1], book.standings()[4]),
            (("enter", "f", "off"), ("leave", "f"), ("enter", "f", "on")),
        )

    def test_a_book_with_more_standings_than_the_limit(self):
        with self.assertRaises(LimitExceeded) as caught:
            Book(short_form(), Rule("enter", "leave", "own"), limit=4)
        self.assertEqual(repr(caught.exception), "LimitExceeded(4)")

    def test_closed_lists(self):
        form = short_form()
        rule = Rule("enter", "leave", "own")
        standings = Book(form, rule).standings()
        self.assertEqual(
            [is_closed(form, rule, standings), is_closed(form, rule, standings[:4]),
             shows_free(form, rule, standings, "stuck")],
            [True, False, True],
        )

    def test_verdicts(self):
        first = Verdict([("stale", "g"), ("unshown", "f"), ("stale", "f")])
        self.assertEqual(
            [first.pairs(), (first ^ Verdict([("stale", "f"), ("full", "f")])).pairs()],
            [[("unshown", "f"), ("stale", "f"), ("stale", "g")],
             [("unshown", "f"), ("stale", "g"), ("full", "f")]],
        )

    def test_needed_pairs_and_least_pairs(self):
        form = Form(("off", "on"), (
            ("f", ("off", None, (None, None), None)),
            ("g", ("off", "f", (("m", None), (None, None)), None)),
        ))
        self.assertEqual(
            [needed(form), least_pairs(form, Rule("enter", "enter", "own"), ["unshown", "stale"])],
            [[("f", "g")], [(("f", "g"),)]],
        )

    def test_a_difference(self):
        form = short_form()
        self.assertEqual(
            difference((form, Rule("enter", "leave", "own")), (form, Rule("enter", "enter", "own"))),
            (("enter", "f", "on"), ("enter", "f", "off")),
        )

    def test_classes_and_a_parting(self):
        book = Book(short_form(), Rule("enter", "leave", "own"))
        self.assertEqual(
            [classes(book), parting(book, book.standings()[1], book.standings()[3])],
            [[[0], [1], [2], [3], [4]], (("leave", "f"),)],
        )

    def test_counts(self):
        book = Book(short_form(), Rule("enter", "leave", "own"))
        self.assertEqual(
            [most_asked(book), least_shown(book, "f", "m"), least_sent(book)],
            [(0, ()), (("leave", "f"),), (("enter", "f", "on"), ("send",))],
        )

    def test_what_heals(self):
        form = short_form()
        candidates = [("rule", "wipes", True), ("rule", "checks", "enter")]
        rules = [Rule("enter", "leave", "own"), Rule("enter", "leave", "own", wipes=True)]
        self.assertEqual(
            [heals(form, Rule("enter", "leave", "own"), "stale", candidates),
             rules_free(form, ["stale"], rules)],
            [[(("rule", "wipes", True),), (("rule", "checks", "enter"),)], [1]],
        )

    def test_a_desk(self):
        desk = Desk(short_form(), [Rule("enter", "leave", "own")])
        desk["f", "far"] = ("m", None)
        self.assertEqual([len(desk), desk["f", "far"], desk.watched], [1, ("m", None), ()])


if __name__ == "__main__":
    unittest.main()
