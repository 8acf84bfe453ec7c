"""Points 13 to 17 and 19: checks, deeds, their events in order, and what is refused."""

import copy
import itertools
import random
import unittest

import plainway
from samples import (
    any_standing, example_form, extreme_values, lone_form, many_forms, many_rules, odd_values,
    odd_values_but, standing_of, two_far_form,
)

from wrongshown.doing import Step, begin, step
from wrongshown.errors import InvalidDeed, InvalidStanding, TooManyAsked
from wrongshown.forms import Form
from wrongshown.rules import Rule
from wrongshown.standings import deeds, is_standing

# Three fields that do not look anywhere, each with a far table that knows no error.
ROW = Form(("off", "on"), tuple((name, ("off", None, (None, None), (None, None))) for name in "abc"))
# Three fields of which a and c look at b.
WATCHERS = Form(("off", "on"), (
    ("a", ("off", "b", ((None, "m"), (None, None)), None)),
    ("b", ("off", None, (None, "n"), None)),
    ("c", ("off", "b", ((None, "o"), ("o", None)), None)),
))


class DoingTests(unittest.TestCase):
    """What the tests of this file share."""

    def made(self, form, rule, standing, deed):
        """The Step of a deed; checks what holds for every Step."""
        before = copy.deepcopy(standing)
        found = step(form, rule, standing, deed)
        self.assertIsInstance(found, Step)
        self.assertEqual(sorted(vars(found)), ["after", "before", "deed", "events"])
        self.assertEqual((found.deed, found.before), (deed, before))
        self.assertEqual(standing, before)
        self.assertIsInstance(found.events, tuple)
        self.assertTrue(is_standing(form, rule, found.after))
        return found

    def walk(self, form, rule, standing, *done):
        """The standing behind several deeds."""
        for deed in done:
            standing = self.made(form, rule, standing, deed).after
        return standing

    def assert_step(self, form, rule, standing, deed, events, after):
        found = self.made(form, rule, standing, deed)
        self.assertEqual(found.events, tuple(events))
        self.assertEqual(found.after, after)

    def assert_nothing(self, form, rule, standing, deed):
        self.assert_step(form, rule, standing, deed, (), standing)

    def assert_refused(self, form, rule, standing, deed, field):
        before = copy.deepcopy(standing)
        with self.assertRaises(TooManyAsked) as caught:
            step(form, rule, standing, deed)
        self.assertEqual(caught.exception.field, field)
        self.assertEqual(standing, before)


class BeginTests(DoingTests):
    def test_the_step_of_the_start(self):
        for form in many_forms():
            for rule in many_rules()[::20]:
                found = begin(form, rule)
                self.assertIsInstance(found, Step)
                self.assertEqual(sorted(vars(found)), ["after", "before", "deed", "events"])
                self.assertIsNone(found.deed)
                self.assertIsNone(found.before)
                self.assertEqual(found.events, ())
                self.assertEqual(found.after, plainway.start(form))


class CheckTests(DoingTests):
    """Point 13, by leaving an open field of example_form or lone_form."""

    def setUp(self):
        self.form = lone_form()
        self.rule = Rule("leave", "leave", "own")

    def test_a_near_message_is_the_error_and_nothing_is_asked(self):
        for error in (None, "m", "other"):
            for known in ({}, {"f": ("mid", "low")}):
                before = standing_of(self.form, "mid", "f", errors={"f": error}, known=known,
                                     asked=[("f", "on", True)])
                after = standing_of(self.form, "mid", "f", errors={"f": "m"}, known=known,
                                    asked=[("f", "on", True)])
                self.assert_step(self.form, self.rule, before, ("leave", "f"),
                                 [("checked", "f", "m")], after)

    def test_without_a_far_table_a_right_word_has_no_error(self):
        form = example_form()
        for error in (None, "m", "other"):
            self.assert_step(
                form, self.rule, standing_of(form, "off off", "a", errors={"a": error}),
                ("leave", "a"), [("checked", "a", None)], standing_of(form, "off off", "a"))

    def test_a_known_answer_is_the_error(self):
        for word, answer in (("off", None), ("on", "far")):
            for error in (None, "far", "other"):
                before = standing_of(self.form, word, "f", errors={"f": error},
                                     known={"f": (word, answer)})
                after = standing_of(self.form, word, "f", errors={"f": answer},
                                    known={"f": (word, answer)})
                self.assert_step(self.form, self.rule, before, ("leave", "f"),
                                 [("checked", "f", answer)], after)

    def test_a_known_answer_leaves_the_newest_question_about_another_word(self):
        asked = [("f", "mid", True), ("f", "off", True)]
        standing = standing_of(self.form, "on", "f", errors={"f": "far"},
                               known={"f": ("on", "far")}, asked=asked)
        self.assert_step(self.form, self.rule, standing, ("leave", "f"),
                         [("checked", "f", "far")], standing)

    def test_what_is_known_of_another_word_does_not_count(self):
        before = standing_of(self.form, "on", "f", errors={"f": "m"}, known={"f": ("off", None)})
        after = standing_of(self.form, "on", "f", known={"f": ("off", None)},
                            asked=[("f", "on", True)])
        self.assert_step(self.form, self.rule, before, ("leave", "f"),
                         [("checked", "f", None), ("asked", "f", "on")], after)

    def test_a_question_that_stands_is_not_asked_again(self):
        for asked in ([("f", "on", True)], [("f", "off", True), ("f", "on", True), ("f", "off", False)],
                      [("f", "on", False), ("f", "on", True), ("f", "on", True)]):
            before = standing_of(self.form, "on", "f", errors={"f": "low"}, asked=asked)
            after = standing_of(self.form, "on", "f", asked=asked)
            self.assert_step(self.form, self.rule, before, ("leave", "f"),
                             [("checked", "f", None)], after)

    def test_the_same_word_that_is_not_the_newest_is_asked_about_again(self):
        before = standing_of(self.form, "on", "f", asked=[("f", "on", False), ("f", "off", True)])
        after = standing_of(self.form, "on", "f", asked=[
            ("f", "on", False), ("f", "off", False), ("f", "on", True)])
        self.assert_step(self.form, self.rule, before, ("leave", "f"),
                         [("checked", "f", None), ("asked", "f", "on")], after)

    def test_only_questions_about_the_field_lose_their_flag(self):
        before = standing_of(ROW, "on off off", "a b c", asked=[("b", "on", True), ("a", "off", True)])
        after = standing_of(ROW, "on off off", "a b c", asked=[
            ("b", "on", True), ("a", "off", False), ("a", "on", True)])
        self.assert_step(ROW, self.rule, before, ("leave", "a"),
                         [("checked", "a", None), ("asked", "a", "on")], after)

    def test_a_question_about_the_same_word_of_another_field_is_another_one(self):
        before = standing_of(ROW, "on on on", "a b c", asked=[("b", "on", True)])
        after = standing_of(ROW, "on on on", "a b c", asked=[("b", "on", True), ("a", "on", True)])
        self.assert_step(ROW, self.rule, before, ("leave", "a"),
                         [("checked", "a", None), ("asked", "a", "on")], after)

    def test_room_just_enough_and_one_too_few(self):
        for room, many in itertools.product((1, 2, 3), range(4)):
            if many > room:
                continue
            form = self.form.with_room(room)
            standing = standing_of(form, "on", "f", errors={"f": "m"},
                                   asked=[("f", "off", True)] * many)
            if many == room:
                self.assert_refused(form, self.rule, standing, ("leave", "f"), "f")
                continue
            asked = [("f", "off", False)] * many + [("f", "on", True)]
            self.assert_step(form, self.rule, standing, ("leave", "f"),
                             [("checked", "f", None), ("asked", "f", "on")],
                             standing_of(form, "on", "f", asked=asked))

    def test_without_room_what_needs_no_question_is_done(self):
        form = self.form.with_room(1)
        for word, error, known, asked in (
            ("mid", "m", None, [("f", "on", True)]),
            ("on", "far", ("on", "far"), [("f", "off", True)]),
            ("on", None, None, [("f", "on", True)]),
        ):
            before = standing_of(form, word, "f", known={"f": known}, asked=asked)
            after = standing_of(form, word, "f", errors={"f": error}, known={"f": known}, asked=asked)
            self.assert_step(form, self.rule, before, ("leave", "f"), [("checked", "f", error)], after)


class AroundTests(DoingTests):
    """Point 14, by leaving and entering the field b of WATCHERS."""

    def checked(self, around, opened, name="b", form=WATCHERS):
        """The fields that are checked by leaving one, if leaving opens nothing."""
        standing = standing_of(form, "on on on", opened)
        events = self.made(form, Rule("send", "leave", around), standing, ("leave", name)).events
        self.assertEqual({event[0] for event in events} | {"checked"}, {"checked"})
        return [event[1] for event in events]

    def test_own_checks_no_other_field(self):
        self.assertEqual(self.checked("own", "a b c"), ["b"])
        self.assertEqual(self.checked("own", "a c"), [])

    def test_looks_checks_the_open_readers_in_the_order_of_the_form(self):
        self.assertEqual(self.checked("looks", "a b c"), ["b", "a", "c"])
        self.assertEqual(self.checked("looks", "b c"), ["b", "c"])
        self.assertEqual(self.checked("looks", "a c"), ["a", "c"])
        self.assertEqual(self.checked("looks", ""), [])
        self.assertEqual(self.checked("looks", "a b c", "a"), ["a"])

    def test_pairs_check_the_open_fields_that_they_name(self):
        self.assertEqual(self.checked((), "a b c"), ["b"])
        self.assertEqual(self.checked((("b", "a"),), "a b c"), ["b", "a"])
        self.assertEqual(self.checked((("a", "b"),), "a b c"), ["b"])
        self.assertEqual(self.checked((("b", "c"), ("b", "a")), "a b c"), ["b", "a", "c"])
        self.assertEqual(self.checked((("b", "c"), ("b", "a")), "c"), ["c"])
        self.assertEqual(self.checked((("a", "c"), ("c", "a")), "a b c", "a"), ["a", "c"])

    def test_names_that_are_no_fields_do_not_matter(self):
        self.assertEqual(self.checked((("b", "zz"), ("zz", "a"), ("b", "c")), "a b c"), ["b", "c"])

    def test_pairs_of_fields_that_do_not_look_at_each_other(self):
        self.assertEqual(self.checked((("a", "c"),), "a c", "a"), ["a", "c"])

    def test_no_field_is_checked_in_turn(self):
        chain = Form(("off", "on"), (
            ("c", ("off", "b", ((None, None),) * 2, None)),
            ("b", ("off", "a", ((None, None),) * 2, None)),
            ("a", ("off", "b", ((None, None),) * 2, None)),
        ))
        self.assertEqual(self.checked("looks", "a b c", "a", chain), ["a", "b"])
        self.assertEqual(self.checked("looks", "a b c", "b", chain), ["b", "c", "a"])
        pairs = (("a", "b"), ("b", "c"), ("c", "a"))
        self.assertEqual(self.checked(pairs, "a b c", "a", chain), ["a", "b"])

    def test_the_others_are_checked_at_the_words_of_now(self):
        for around in ("looks", (("b", "a"), ("b", "c"))):
            standing = standing_of(WATCHERS, "off off off", "a c")
            self.assert_step(
                WATCHERS, Rule("leave", "enter", around), standing, ("enter", "b", "on"),
                [("entered", "b", "on"), ("checked", "a", "m"), ("checked", "c", "o")],
                standing_of(WATCHERS, "off on off", "a c", errors={"a": "m", "c": "o"}))

    def test_a_field_with_others_is_refused_half_way(self):
        form = ROW.with_room(2)
        rule = Rule("leave", "enter", (("a", "b"), ("a", "c")))
        standing = standing_of(form, "on on on", "a b c", errors={"a": "m"})
        self.assert_refused(form, rule, standing, ("leave", "a"), "c")
        self.assert_refused(form, rule, standing, ("enter", "a", "off"), "c")
        self.assert_refused(form.with_room(1), rule, standing, ("leave", "a"), "b")
        self.assert_step(
            form, rule, standing, ("leave", "b"), [("checked", "b", None), ("asked", "b", "on")],
            standing_of(form, "on on on", "a b c", errors={"a": "m"}, asked=[("b", "on", True)]))


class EnterTests(DoingTests):
    def test_the_word_that_the_field_holds_already(self):
        form = example_form()
        for rule in many_rules()[::5]:
            standing = standing_of(form, "on off", "b", errors={"a": "x", "b": "zz"},
                                   asked=[("b", "on", True)], waiting=rule.sending == "wait")
            self.assert_nothing(form, rule, standing, ("enter", "a", "on"))
            self.assert_nothing(form, rule, standing, ("enter", "b", "off"))

    def test_opens_and_checks(self):
        form = example_form()
        entered = ("entered", "a", "on")
        for opens, checks, events, opened, error in (
            ("enter", "enter", [("opened", "a"), ("checked", "a", "m")], "a", "m"),
            ("enter", "leave", [("opened", "a")], "a", None),
            ("leave", "enter", [], "", None),
            ("leave", "leave", [], "", None),
            ("send", "enter", [], "", None),
            ("send", "leave", [], "", None),
        ):
            self.assert_step(
                form, Rule(opens, checks, "own"), standing_of(form, "off off"), ("enter", "a", "on"),
                [entered, *events],
                standing_of(form, "on off", opened, errors={"a": error}))

    def test_an_open_field_is_checked_whatever_opens_it(self):
        form = example_form()
        for opens in ("enter", "leave", "send"):
            self.assert_step(
                form, Rule(opens, "enter", "own"), standing_of(form, "off off", "a"),
                ("enter", "a", "on"), [("entered", "a", "on"), ("checked", "a", "m")],
                standing_of(form, "on off", "a", errors={"a": "m"}))

    def test_checks_leave_checks_no_other_field_either(self):
        standing = standing_of(WATCHERS, "off off off", "a b c", errors={"a": "m"})
        for around in ("own", "looks", (("b", "a"),)):
            self.assert_step(
                WATCHERS, Rule("enter", "leave", around), standing, ("enter", "b", "on"),
                [("entered", "b", "on")],
                standing_of(WATCHERS, "off on off", "a b c", errors={"a": "m"}))

    def test_wipes(self):
        form = example_form()
        for opened, error in itertools.product(("", "a"), (None, "zz")):
            before = standing_of(form, "off off", opened, errors={"a": error, "b": "other"})
            for wipes in (False, True):
                events = [("entered", "a", "on")]
                if wipes and error:
                    events.append(("wiped", "a"))
                kept = None if wipes else error
                self.assert_step(
                    form, Rule("send", "leave", "own", wipes=wipes), before, ("enter", "a", "on"),
                    events,
                    standing_of(form, "on off", opened, errors={"a": kept, "b": "other"}))

    def test_wiped_stands_between_opened_and_checked(self):
        form = example_form()
        before = standing_of(form, "off off", errors={"a": "zz"}, asked=[("b", "on", True)],
                             waiting=True)
        self.assert_step(
            form, Rule("enter", "enter", "own", wipes=True), before, ("enter", "a", "on"),
            [("entered", "a", "on"), ("dropped",), ("opened", "a"), ("wiped", "a"),
             ("checked", "a", "m")],
            standing_of(form, "on off", "a", errors={"a": "m"}, asked=[("b", "on", True)]))

    def test_the_waiting_ends(self):
        form = two_far_form()
        before = standing_of(form, "off off", "c d", asked=[("c", "off", True)], waiting=True)
        self.assert_step(
            form, Rule("send", "leave", "own"), before, ("enter", "d", "on"),
            [("entered", "d", "on"), ("dropped",)],
            standing_of(form, "off on", "c d", asked=[("c", "off", True)]))

    def test_a_refused_enter_changes_nothing(self):
        form = two_far_form().with_room(1)
        before = standing_of(form, "off off", "c", errors={"d": "zz"}, asked=[("c", "off", True)],
                             waiting=True)
        rule = Rule("enter", "enter", "own", wipes=True)
        self.assert_refused(form, rule, before, ("enter", "d", "on"), "d")
        self.assert_refused(form, rule, before, ("enter", "c", "on"), "c")

    def test_entered_words_that_come_back(self):
        form = lone_form()
        rule = Rule("enter", "enter", "own", taken="last")
        standing = self.walk(form, rule, begin(form, rule).after, ("enter", "f", "on"),
                             ("answer", 0), ("enter", "f", "off"), ("enter", "f", "on"))
        self.assertEqual(standing, standing_of(
            form, "on", "f", errors={"f": "far"}, known={"f": ("on", "far")},
            asked=[("f", "off", True)]))


class LeaveTests(DoingTests):
    def test_what_opens(self):
        form = example_form()
        for checks, around, wipes in itertools.product(("enter", "leave"), ("own", "looks"), (False, True)):
            for opens in ("enter", "leave", "send"):
                rule = Rule(opens, checks, around, wipes=wipes)
                if opens == "send":
                    self.assert_nothing(form, rule, standing_of(form, "on off"), ("leave", "a"))
                    continue
                self.assert_step(
                    form, rule, standing_of(form, "on off"), ("leave", "a"),
                    [("opened", "a"), ("checked", "a", "m")],
                    standing_of(form, "on off", "a", errors={"a": "m"}))

    def test_an_open_field_is_checked_and_not_opened_again(self):
        form = example_form()
        for opens in ("enter", "leave", "send"):
            self.assert_step(
                form, Rule(opens, "enter", "own"), standing_of(form, "on off", "a"), ("leave", "a"),
                [("checked", "a", "m")], standing_of(form, "on off", "a", errors={"a": "m"}))

    def test_readers_are_checked_though_the_field_stays_closed(self):
        form = example_form()
        self.assert_step(
            form, Rule("send", "leave", "looks"), standing_of(form, "on off", "b"), ("leave", "a"),
            [("checked", "b", "x")], standing_of(form, "on off", "b", errors={"b": "x"}))

    def test_a_form_that_waits_goes_on_waiting(self):
        form = two_far_form()
        before = standing_of(form, "on off", "c d", asked=[("d", "off", True)], waiting=True)
        self.assert_step(
            form, Rule("leave", "leave", "own"), before, ("leave", "c"),
            [("checked", "c", None), ("asked", "c", "on")],
            standing_of(form, "on off", "c d", asked=[("d", "off", True), ("c", "on", True)],
                        waiting=True))

    def test_a_refused_leave_opens_nothing(self):
        form = two_far_form().with_room(1)
        standing = standing_of(form, "off off", asked=[("c", "off", True)])
        self.assert_refused(form, Rule("leave", "leave", "own"), standing, ("leave", "d"), "d")


class SendTests(DoingTests):
    def setUp(self):
        self.form = example_form()

    def test_with_an_error_it_is_held(self):
        for sending in ("bar", "wait", "go"):
            self.assert_step(
                self.form, Rule("send", "leave", "own", sending=sending),
                standing_of(self.form, "on on"), ("send",),
                [("opened", "a"), ("opened", "b"), ("checked", "a", "m"), ("checked", "b", None),
                 ("asked", "b", "on"), ("held",)],
                standing_of(self.form, "on on", "a b", errors={"a": "m"}, asked=[("b", "on", True)]))

    def test_with_no_error_and_nothing_asked_it_is_sent(self):
        for sending in ("bar", "wait", "go"):
            for known in ({"b": ("off", None)},):
                self.assert_step(
                    self.form, Rule("send", "leave", "looks", sending=sending),
                    standing_of(self.form, "off off", "a", errors={"a": "old", "b": "old"}, known=known),
                    ("send",),
                    [("opened", "b"), ("checked", "a", None), ("checked", "b", None),
                     ("sent", ("off", "off"))],
                    standing_of(self.form, "off off", "a b", known=known))

    def test_with_questions_and_no_error(self):
        for sending, event in (("bar", ("held",)), ("wait", ("waits",)), ("go", ("sent", ("off", "off")))):
            self.assert_step(
                self.form, Rule("send", "leave", "own", sending=sending),
                standing_of(self.form, "off off", "a b"), ("send",),
                [("checked", "a", None), ("checked", "b", None), ("asked", "b", "off"), event],
                standing_of(self.form, "off off", "a b", asked=[("b", "off", True)],
                            waiting=sending == "wait"))

    def test_questions_that_stood_before_count_too(self):
        asked = [("b", "on", True)]
        known = {"b": ("off", None)}
        for sending, event in (("bar", ("held",)), ("wait", ("waits",)), ("go", ("sent", ("off", "off")))):
            self.assert_step(
                self.form, Rule("send", "leave", "own", sending=sending),
                standing_of(self.form, "off off", "a b", known=known, asked=asked), ("send",),
                [("checked", "a", None), ("checked", "b", None), event],
                standing_of(self.form, "off off", "a b", known=known, asked=asked,
                            waiting=sending == "wait"))

    def test_a_known_error_holds_it(self):
        standing = standing_of(self.form, "off on", "a b", known={"b": ("on", "far")})
        for sending in ("bar", "wait", "go"):
            self.assert_step(
                self.form, Rule("enter", "enter", "own", sending=sending), standing, ("send",),
                [("checked", "a", None), ("checked", "b", "far"), ("held",)],
                standing_of(self.form, "off on", "a b", errors={"b": "far"},
                            known={"b": ("on", "far")}))

    def test_while_the_form_waits_nothing_happens(self):
        for words, opened, errors in itertools.product(
                ("off off", "on on"), ("", "a b"), ({}, {"a": "m", "b": "x"})):
            standing = standing_of(self.form, words, opened, errors=errors,
                                   asked=[("b", "off", True)], waiting=True)
            for opens in ("enter", "leave", "send"):
                self.assert_nothing(self.form, Rule(opens, "enter", "looks"), standing, ("send",))

    def test_a_form_that_is_sent_stays_as_it_is(self):
        rule = Rule("send", "leave", "own", sending="go")
        first = self.made(self.form, rule, begin(self.form, rule).after, ("send",))
        again = self.made(self.form, rule, first.after, ("send",))
        self.assertEqual(first.after, again.after)
        self.assertEqual(again.events, (
            ("checked", "a", None), ("checked", "b", None), ("sent", ("off", "off"))))

    def test_each_field_is_checked_once_whatever_around_is(self):
        for around in ("own", "looks", (("b", "a"), ("b", "c"), ("a", "b"))):
            events = self.made(WATCHERS, Rule("send", "enter", around),
                               standing_of(WATCHERS, "on on on"), ("send",)).events
            self.assertEqual(events, (
                ("opened", "a"), ("opened", "b"), ("opened", "c"), ("checked", "a", None),
                ("checked", "b", "n"), ("checked", "c", None), ("held",)))

    def test_questions_are_asked_in_the_order_of_the_form(self):
        rule = Rule("send", "leave", "own")
        after = self.walk(ROW, rule, standing_of(ROW, "off on off"), ("send",))
        self.assertEqual(after, standing_of(
            ROW, "off on off", "a b c",
            asked=[("a", "off", True), ("b", "on", True), ("c", "off", True)], waiting=True))

    def test_a_send_is_refused_half_way(self):
        for sending in ("bar", "wait", "go"):
            rule = Rule("send", "leave", "own", sending=sending)
            for room, asked, field in ((1, [], "b"), (2, [], "c"), (1, [("c", "off", True)], "a"),
                                       (2, [("c", "off", True)], "b"), (3, [("b", "on", True)], "c")):
                form = ROW.with_room(room)
                standing = standing_of(form, "off off off", "b", errors={"a": "zz"}, asked=asked)
                self.assert_refused(form, rule, standing, ("send",), field)

    def test_a_wrong_field_ahead_does_not_save_a_refused_send(self):
        form = two_far_form().with_room(1).with_table("c", "near", ("m", None))
        rule = Rule("send", "leave", "own")
        self.assert_refused(form, rule, standing_of(form, "on on"), ("send",), "d")
        self.assert_step(
            form, rule, standing_of(form, "off on"), ("send",),
            [("opened", "c"), ("opened", "d"), ("checked", "c", "m"), ("checked", "d", None),
             ("asked", "d", "on"), ("held",)],
            standing_of(form, "off on", "c d", errors={"c": "m"}, asked=[("d", "on", True)]))


class AnswerTests(DoingTests):
    def setUp(self):
        self.form = lone_form()

    def rule(self, taken, sending="wait"):
        return Rule("enter", "enter", "own", taken=taken, sending=sending)

    def test_an_index_without_a_question(self):
        for many in range(4):
            standing = standing_of(self.form, "on", "f", asked=[("f", "off", True)] * many,
                                   waiting=many > 0)
            for index in range(many, 3):
                for taken in ("any", "same", "last"):
                    self.assert_nothing(self.form, self.rule(taken), standing, ("answer", index))

    def test_which_answers_are_taken_and_what_they_show(self):
        # The field holds on; the answer to on is far, the one to off is None.
        for taken, word, newest, opened, error in itertools.product(
                ("any", "same", "last"), ("on", "off"), (True, False), ("f", ""), (None, "old")):
            is_taken = {"any": True, "same": word == "on", "last": newest}[taken]
            answer = "far" if word == "on" else None
            shown = answer if is_taken and opened else error
            self.assert_step(
                self.form, self.rule(taken),
                standing_of(self.form, "on", opened, errors={"f": error}, known={"f": ("mid", "low")},
                            asked=[("f", word, newest)]),
                ("answer", 0), [("answered", "f", word, answer, is_taken)],
                standing_of(self.form, "on", opened, errors={"f": shown},
                            known={"f": (word, answer) if is_taken else ("mid", "low")}))

    def test_a_near_message_is_replaced_but_not_with_same(self):
        # The field holds mid, which is wrong near.
        for taken, word, opened in itertools.product(
                ("any", "same", "last"), ("off", "on", "mid"), ("f", "")):
            is_taken = taken != "same" or word == "mid"
            answer = {"off": None, "on": "far", "mid": "low"}[word]
            shown = answer if opened and taken != "same" else "m"
            self.assert_step(
                self.form, self.rule(taken),
                standing_of(self.form, "mid", opened, errors={"f": "m"}, asked=[("f", word, True)]),
                ("answer", 0), [("answered", "f", word, answer, is_taken)],
                standing_of(self.form, "mid", opened, errors={"f": shown},
                            known={"f": (word, answer)} if is_taken else {}))

    def test_with_same_the_error_stays_even_if_it_is_not_the_near_message(self):
        for error in (None, "old"):
            self.assert_step(
                self.form, self.rule("same"),
                standing_of(self.form, "mid", "f", errors={"f": error}, asked=[("f", "mid", False)]),
                ("answer", 0), [("answered", "f", "mid", "low", True)],
                standing_of(self.form, "mid", "f", errors={"f": error}, known={"f": ("mid", "low")}))

    def test_with_same_the_near_entry_at_the_words_of_now_counts(self):
        form = example_form()
        for words, shown in (("off off", None), ("on off", "old")):
            self.assert_step(
                form, self.rule("same"),
                standing_of(form, words, "a b", errors={"b": "old"}, asked=[("b", "off", True)]),
                ("answer", 0), [("answered", "b", "off", None, True)],
                standing_of(form, words, "a b", errors={"b": shown}, known={"b": ("off", None)}))

    def test_the_question_at_the_index_is_removed(self):
        asked = [("b", "on", True), ("a", "off", True), ("a", "on", False)]
        for index, name, word in ((0, "b", "on"), (1, "a", "off"), (2, "a", "on")):
            self.assert_step(
                ROW, Rule("send", "leave", "own", taken="any"),
                standing_of(ROW, "off off off", asked=asked), ("answer", index),
                [("answered", name, word, None, True)],
                standing_of(ROW, "off off off", known={name: (word, None)},
                            asked=asked[:index] + asked[index + 1:]))

    def test_the_other_questions_keep_their_flags(self):
        asked = [("f", "off", False), ("f", "on", True)]
        self.assert_step(
            self.form, self.rule("last"), standing_of(self.form, "off", "f", asked=asked),
            ("answer", 1), [("answered", "f", "on", "far", True)],
            standing_of(self.form, "off", "f", errors={"f": "far"}, known={"f": ("on", "far")},
                        asked=asked[:1]))

    def test_the_answer_that_ends_the_waiting_sends_the_form(self):
        for taken, word in itertools.product(("any", "same", "last"), ("off", "on")):
            # The answer to off is None; with "same" the one to on is not taken, as f holds off.
            is_taken = taken != "same" or word == "off"
            answer = "far" if word == "on" else None
            shown = answer if is_taken else None
            self.assert_step(
                self.form, self.rule(taken),
                standing_of(self.form, "off", "f", asked=[("f", word, True)], waiting=True),
                ("answer", 0),
                [("answered", "f", word, answer, is_taken), ("held",) if shown else ("sent", ("off",))],
                standing_of(self.form, "off", "f", errors={"f": shown},
                            known={"f": (word, answer)} if is_taken else {}))

    def test_a_form_that_waits_is_held_if_any_field_has_an_error(self):
        form = two_far_form()
        for opened in ("", "c d"):
            self.assert_step(
                form, self.rule("same"),
                standing_of(form, "off off", opened, errors={"d": "old"}, asked=[("c", "off", True)],
                            waiting=True),
                ("answer", 0), [("answered", "c", "off", None, True), ("held",)],
                standing_of(form, "off off", opened, errors={"d": "old"}, known={"c": ("off", None)}))

    def test_while_a_question_is_left_the_form_goes_on_waiting(self):
        form = two_far_form()
        asked = [("c", "off", True), ("d", "on", True)]
        self.assert_step(
            form, self.rule("same"), standing_of(form, "off on", "c d", asked=asked, waiting=True),
            ("answer", 1), [("answered", "d", "on", "far", True)],
            standing_of(form, "off on", "c d", errors={"d": "far"}, known={"d": ("on", "far")},
                        asked=asked[:1], waiting=True))

    def test_the_last_answer_sends_nothing_if_the_form_does_not_wait(self):
        for sending in ("bar", "wait", "go"):
            self.assert_step(
                self.form, self.rule("any", sending),
                standing_of(self.form, "off", "f", asked=[("f", "off", True)]), ("answer", 0),
                [("answered", "f", "off", None, True)],
                standing_of(self.form, "off", "f", known={"f": ("off", None)}))


class ResetTests(DoingTests):
    def test_everything_but_what_is_known_and_asked_goes_back(self):
        form = many_forms()[6]
        known, asked = {"c": ("off", "q")}, [("a", "on", True), ("b", "off", False)]
        after = standing_of(form, "off on off", known=known, asked=asked)
        for waiting in (False, True):
            before = standing_of(form, "on off on", "c b", errors={"a": "x", "b": "y"}, known=known,
                                 asked=asked, waiting=waiting)
            events = [("reset",), ("dropped",)] if waiting else [("reset",)]
            self.assert_step(form, Rule("leave", "enter", "looks"), before, ("reset",), events, after)
            self.assert_step(form, Rule("leave", "enter", "looks"), after, ("reset",),
                             [("reset",)], after)

    def test_an_answer_behind_a_reset(self):
        form = lone_form()
        for taken in ("any", "same", "last"):
            rule = Rule("enter", "enter", "own", taken=taken)
            behind = self.walk(form, rule, begin(form, rule).after, ("enter", "f", "on"), ("reset",))
            self.assertEqual(behind, standing_of(form, "off", asked=[("f", "on", True)]))
            is_taken = taken != "same"
            known = {"f": ("on", "far")} if is_taken else {}
            self.assert_step(form, rule, behind, ("answer", 0),
                             [("answered", "f", "on", "far", is_taken)],
                             standing_of(form, "off", known=known))

    def test_a_question_that_stood_before_a_reset_is_not_asked_again(self):
        form = lone_form()
        rule = Rule("enter", "enter", "own")
        standing = self.walk(form, rule, begin(form, rule).after, ("enter", "f", "on"), ("reset",))
        self.assert_step(form, rule, standing, ("enter", "f", "on"),
                         [("entered", "f", "on"), ("opened", "f"), ("checked", "f", None)],
                         standing_of(form, "on", "f", asked=[("f", "on", True)]))


class RefusalTests(DoingTests):
    def setUp(self):
        self.form = example_form()
        self.rule = Rule("enter", "enter", "looks")
        self.start = begin(self.form, self.rule).after

    def test_standings_of_any_kind(self):
        for value in [*odd_values(), *extreme_values(), list(self.start), self.start[:5]]:
            for deed in (("send",), ("enter", "a", "on"), None, ("answer", True), []):
                with self.assertRaises(InvalidStanding) as caught:
                    step(self.form, self.rule, value, deed)
                self.assertEqual(vars(caught.exception), {})

    def test_a_standing_of_another_rule_or_form(self):
        waiting = standing_of(self.form, "off off", asked=[("b", "on", True)], waiting=True)
        self.made(self.form, self.rule, waiting, ("send",))
        for sending in ("bar", "go"):
            rule = self.rule.with_part("sending", sending)
            self.assertRaises(InvalidStanding, step, self.form, rule, waiting, ("send",))
        lone = Form(("off", "on"), self.form.fields[:1])
        self.assertRaises(InvalidStanding, step, lone, self.rule, self.start, ("send",))

    def test_deeds_of_any_kind(self):
        wrong = [("answer", True), ("answer", 3), ("enter", "a", "mid"), ("leave", "c"), ["send"],
                 ("send", None), ("enter", "a")]
        for deed in [*odd_values_but(), *extreme_values(), *wrong]:
            with self.assertRaises(InvalidDeed) as caught:
                step(self.form, self.rule, self.start, deed)
            self.assertIs(caught.exception.deed, deed)

    def test_a_wrong_deed_is_told_before_a_full_room(self):
        form = two_far_form().with_room(1)
        standing = standing_of(form, "off off", asked=[("c", "on", True)])
        self.assert_refused(form, self.rule, standing, ("send",), "c")
        self.assertRaises(InvalidDeed, step, form, self.rule, standing, ("send", 1))


class SecondWayTests(DoingTests):
    """Every deed from many standings, against plainway."""

    def outcome(self, form, rule, standing, deed):
        try:
            found = step(form, rule, standing, deed)
        except TooManyAsked as error:
            return ("refused", error.field)
        self.assertEqual((found.deed, found.before), (deed, standing))
        self.assertTrue(plainway.is_standing(form, rule, found.after))
        return found.after, found.events

    def expected(self, form, rule, standing, deed):
        try:
            return plainway.done(form, rule, standing, deed)
        except plainway.Refused as error:
            return ("refused", error.field)

    def compare(self, form, rule, standing, seen):
        before = copy.deepcopy(standing)
        for deed in deeds(form):
            found = self.outcome(form, rule, standing, deed)
            wanted = self.expected(form, rule, standing, deed)
            if found != wanted:
                self.fail(f"{form.fields} {rule} {standing} {deed}: {found} is not {wanted}")
            kinds = ["refused"] if found[0] == "refused" else [event[0] for event in found[1]]
            for kind in kinds or ["nothing"]:
                seen[kind] = seen.get(kind, 0) + 1
        self.assertEqual(standing, before)

    def test_from_standings_of_any_kind(self):
        dice = random.Random(17)
        seen = {}
        for rule in many_rules():
            for form in many_forms():
                for _ in range(2):
                    self.compare(form, rule, any_standing(form, rule, dice), seen)
        self.assertEqual(sorted(seen), [
            "answered", "asked", "checked", "dropped", "entered", "held", "nothing", "opened",
            "refused", "reset", "sent", "waits", "wiped"])
        self.assertGreater(min(seen.values()), 300)

    def test_from_standings_that_deeds_reach(self):
        dice = random.Random(19)
        seen = {}
        for at, rule in enumerate(many_rules()):
            form = many_forms()[at % 9]
            standing = begin(form, rule).after
            for _ in range(12):
                self.compare(form, rule, standing, seen)
                found = self.outcome(form, rule, standing, dice.choice(deeds(form)))
                standing = standing if found[0] == "refused" else found[0]
        self.assertGreater(min(seen.values()), 20)


if __name__ == "__main__":
    unittest.main()
