"""Point 22: live forms, each of their methods, properties and operators."""

import copy
import random
import unittest

import plainway
from samples import (
    any_standing, example_form, extreme_values, lone_form, many_forms, many_rules, odd_values,
    odd_values_but, standing_of, two_far_form,
)

from wrongshown.doing import begin
from wrongshown.errors import (
    InvalidDeed, InvalidStanding, NothingToUndo, TooManyAsked, UnknownField, UnknownWord,
)
from wrongshown.live import Live
from wrongshown.rules import Rule
from wrongshown.standings import deeds

RULE = Rule("enter", "enter", "own")
WRONG_DEEDS = [
    ("answer", True), ("answer", 3), ("enter", "a", "mid"), ("enter", "c", "on"), ("leave", "c"),
    ["send"], ("send", None), "send", (), None, {}, [],
]
WRONG_NAMES = ["c", "off", "on", "A", "", ("a",), ["a"], {"a": "b"}, b"a", 0, None, True]


def all_told(live):
    """All that a live form tells of itself."""
    return [
        live.errors, list(live.errors), live.waiting, [live[name] for name in live.form.field_names()],
        live.standing(), live.last_events(), live.deeds_done(), len(live), live.seen(), live.sent(),
    ]


class LiveTests(unittest.TestCase):
    """What the tests of this file share."""

    def assert_told(self, live, beginning, done):
        """All that a live form tells, against the second way of doing its deeds."""
        form, rule = live.form, live.rule
        standing, events, seen, sent = beginning, (), [beginning[2]], []
        for deed in done:
            standing, events = plainway.done(form, rule, standing, deed)
            seen.append(standing[2])
            sent.extend(event[1] for event in events if event[0] == "sent")
        names = form.field_names()
        errors = {name: error for name, error in zip(names, standing[2]) if error is not None}
        self.assertEqual(all_told(live), [
            errors, list(errors), standing[5], list(standing[0]), standing, events, list(done),
            len(done), seen, sent])
        self.assertIsInstance(live.waiting, bool)

    def assert_unchanged(self, live, act, error, **attributes):
        """The act raises an error with these attributes, and nothing changes."""
        before = copy.deepcopy(all_told(live))
        with self.assertRaises(error) as caught:
            act()
        self.assertIs(type(caught.exception), error)
        self.assertEqual(sorted(vars(caught.exception)), sorted(attributes))
        for name, value in attributes.items():
            self.assertIs(getattr(caught.exception, name), value)
        self.assertEqual(all_told(live), before)


class BeginningTests(LiveTests):
    def test_the_start(self):
        for form in many_forms():
            live = Live(form, RULE)
            self.assertIs(live.form, form)
            self.assertIs(live.rule, RULE)
            self.assert_told(live, plainway.start(form), [])
            self.assertEqual(live.errors, {})
            self.assertIs(live.waiting, False)

    def test_standing_none_is_the_start(self):
        form = example_form()
        self.assert_told(Live(form, RULE, standing=None), plainway.start(form), [])

    def test_a_given_standing(self):
        form = two_far_form()
        standing = standing_of(form, "on off", "d", errors={"d": "zz"}, known={"c": ("on", "far")},
                               asked=[("c", "on", False)], waiting=True)
        live = Live(form, RULE, standing=standing)
        self.assert_told(live, standing, [])
        self.assertEqual((live.errors, live.waiting, live["c"]), ({"d": "zz"}, True, "on"))
        self.assertEqual(live.last_events(), ())
        self.assertRaises(NothingToUndo, live.undo)
        live.answer(0)
        self.assert_told(live, standing, [("answer", 0)])
        live.undo()
        self.assert_told(live, standing, [])

    def test_standings_of_any_kind(self):
        form = example_form()
        start = begin(form, RULE).after
        for value in [*odd_values_but(None), *extreme_values(), list(start), start[:5], (start,)]:
            with self.assertRaises(InvalidStanding):
                Live(form, RULE, standing=value)

    def test_a_standing_of_another_rule(self):
        form = two_far_form()
        standing = standing_of(form, "off off", asked=[("c", "on", True)], waiting=True)
        self.assertTrue(Live(form, RULE, standing=standing).waiting)
        for sending in ("bar", "go"):
            with self.assertRaises(InvalidStanding):
                Live(form, RULE.with_part("sending", sending), standing=standing)

    def test_standing_is_passed_by_keyword_alone(self):
        with self.assertRaises(TypeError):
            Live(example_form(), RULE, None)


class DeedTests(LiveTests):
    def setUp(self):
        self.form = example_form()
        self.start = plainway.start(self.form)
        self.live = Live(self.form, RULE)

    def test_every_deed_returns_its_events(self):
        for form in many_forms():
            for deed in deeds(form):
                live = Live(form, RULE)
                try:
                    standing, events = plainway.done(form, RULE, live.standing(), deed)
                except plainway.Refused:
                    self.assertRaises(TooManyAsked, live.perform, deed)
                    continue
                self.assertEqual(live.perform(deed), events)
                self.assert_told(live, plainway.start(form), [deed])

    def test_the_methods_for_deeds(self):
        live = Live(two_far_form(), Rule("leave", "enter", "own"))
        done = []
        for act, deed in (
            (lambda: live.leave("c"), ("leave", "c")), (lambda: live.leave("d"), ("leave", "d")),
            (lambda: live.send(), ("send",)), (lambda: live.answer(1), ("answer", 1)),
            (lambda: live.answer(2), ("answer", 2)), (lambda: live.answer(0), ("answer", 0)),
            (lambda: live.reset(), ("reset",)), (lambda: live.send(), ("send",)),
        ):
            events = plainway.done(live.form, live.rule, live.standing(), deed)[1]
            self.assertEqual(act(), events)
            done.append(deed)
            self.assert_told(live, plainway.start(live.form), done)
        self.assertEqual(live.sent(), [("off", "off"), ("off", "off")])

    def test_a_deed_that_does_nothing_is_added(self):
        done = [("enter", "a", "off"), ("answer", 2), ("enter", "a", "off")]
        for deed in done:
            self.assertEqual(self.live.perform(deed), ())
        self.assert_told(self.live, self.start, done)
        self.assertEqual(self.live.seen(), [(None, None)] * 4)

    def test_deeds_of_any_kind(self):
        self.live.send()
        for deed in [*odd_values(), *extreme_values(), *WRONG_DEEDS]:
            self.assert_unchanged(self.live, lambda: self.live.perform(deed), InvalidDeed, deed=deed)

    def test_indexes_of_any_kind(self):
        self.live.send()
        for index in [*odd_values_but(0, 1, 2), -1, 3, True, False, "0", [0]]:
            before = copy.deepcopy(all_told(self.live))
            with self.assertRaises(InvalidDeed) as caught:
                self.live.answer(index)
            kind, told = caught.exception.deed
            self.assertEqual(kind, "answer")
            self.assertIs(told, index)
            self.assertEqual(all_told(self.live), before)
        for index in extreme_values():
            self.assertRaises(InvalidDeed, self.live.answer, index)

    def test_names_of_any_kind_to_leave(self):
        for name in [*odd_values_but("a"), *extreme_values(), *WRONG_NAMES]:
            self.assert_unchanged(self.live, lambda: self.live.leave(name), UnknownField, field=name)

    def test_a_deed_that_is_refused(self):
        form = two_far_form().with_room(1)
        asked = [("d", "off", True)]
        for field, words, opened, act in (
            ("c", "off off", "", lambda live: live.send()),
            ("c", "off off", "", lambda live: live.leave("c")),
            ("c", "off off", "d", lambda live: live.perform(("leave", "c"))),
            ("c", "off off", "d", lambda live: live.perform(("send",))),
            ("c", "off off", "d", lambda live: live.perform(("enter", "c", "on"))),
            ("d", "off on", "", lambda live: live.leave("d")),
            ("d", "off off", "c", lambda live: live.perform(("enter", "d", "on"))),
        ):
            live = Live(form, RULE, standing=standing_of(form, words, opened, asked=asked))
            live.perform(("answer", 1))
            before = copy.deepcopy(all_told(live))
            with self.assertRaises(TooManyAsked) as caught:
                act(live)
            self.assertEqual(caught.exception.field, field)
            self.assertEqual(all_told(live), before)

    def test_the_errors_stand_in_the_order_of_the_form(self):
        form = two_far_form().with_table("c", "near", ("x", None)).with_table("d", "near", ("y", None))
        live = Live(form, RULE)
        self.assertEqual(live.errors, {})
        live.leave("d")
        self.assertEqual(list(live.errors.items()), [("d", "y")])
        live.leave("c")
        self.assertEqual(list(live.errors.items()), [("c", "x"), ("d", "y")])
        live["d"] = "on"
        self.assertEqual(live.errors, {"c": "x"})

    def test_waiting_comes_and_goes(self):
        live = Live(two_far_form(), RULE)
        live.send()
        self.assertIs(live.waiting, True)
        live["c"] = "on"
        self.assertIs(live.waiting, False)
        live.undo()
        self.assertIs(live.waiting, True)

    def test_the_properties_are_only_read(self):
        with self.assertRaises(AttributeError):
            self.live.errors = {}
        with self.assertRaises(AttributeError):
            self.live.waiting = True


class ItemTests(LiveTests):
    def setUp(self):
        self.live = Live(example_form(), RULE)
        self.start = plainway.start(self.live.form)

    def test_the_words_of_the_fields(self):
        self.assertEqual((self.live["a"], self.live["b"]), ("off", "off"))
        self.live["b"] = "on"
        self.assertEqual((self.live["a"], self.live["b"]), ("off", "on"))
        self.assert_told(self.live, self.start, [("enter", "b", "on")])

    def test_the_words_of_one_to_three_fields_behind_deeds(self):
        dice = random.Random(9)
        counts = set()
        for form in many_forms():
            names = form.field_names()
            counts.add(len(names))
            live = Live(form, Rule("send", "leave", "own"))
            words = dict(zip(names, plainway.start(form)[0]))
            self.assertEqual({name: live[name] for name in names}, words)
            for _ in range(8):
                name, word = dice.choice(names), dice.choice(form.words)
                live.perform(("enter", name, word))
                words[name] = word
                self.assertEqual({name: live[name] for name in names}, words)
                for value in ("zz", *form.words, names, 0):
                    if value not in names:
                        self.assert_unchanged(live, lambda: live[value], UnknownField, field=value)
        self.assertEqual(counts, {1, 2, 3})

    def test_another_word_is_entered(self):
        self.live["a"] = "on"
        self.assertEqual(self.live.last_events(),
                         (("entered", "a", "on"), ("opened", "a"), ("checked", "a", "m")))
        self.live["a"] = "off"
        self.assert_told(self.live, self.start, [("enter", "a", "on"), ("enter", "a", "off")])

    def test_the_same_word_is_no_deed(self):
        self.live["a"] = "off"
        self.assert_told(self.live, self.start, [])
        self.live["a"] = "on"
        self.live["a"] = "on"
        self.assert_told(self.live, self.start, [("enter", "a", "on")])

    def test_names_of_any_kind(self):
        for name in [*odd_values_but("a"), *extreme_values(), *WRONG_NAMES]:
            for act in (
                lambda: self.live[name],
                lambda: self.live.__setitem__(name, "on"),
                lambda: self.live.__setitem__(name, "off"),
                lambda: self.live.__setitem__(name, "mid"),
                lambda: self.live.__setitem__(name, ["on"]),
            ):
                self.assert_unchanged(self.live, act, UnknownField, field=name)

    def test_words_of_any_kind(self):
        for word in [*odd_values_but("off", "on"), *extreme_values(), "mid", "a", "On", ["on"], ("on",)]:
            self.assert_unchanged(self.live, lambda: self.live.__setitem__("a", word), UnknownWord,
                                  word=word)

    def test_a_word_that_is_refused(self):
        form = two_far_form().with_room(1)
        live = Live(form, RULE, standing=standing_of(form, "off off", "c", asked=[("d", "off", True)]))
        live["d"] = "off"
        self.assert_unchanged(live, lambda: live.__setitem__("c", "mid"), UnknownWord, word="mid")
        before = copy.deepcopy(all_told(live))
        with self.assertRaises(TooManyAsked) as caught:
            live["c"] = "on"
        self.assertEqual(caught.exception.field, "c")
        self.assertEqual(all_told(live), before)

    def test_which_names_are_in_it(self):
        for name in ("a", "b"):
            self.assertIs(name in self.live, True)
            self.assertIs(name not in self.live, False)
        for name in [*odd_values_but("a"), *extreme_values(), *WRONG_NAMES]:
            self.assertIs(name in self.live, False)

    def test_it_is_not_iterated_over(self):
        with self.assertRaises(TypeError):
            list(self.live)


class SeveralTests(LiveTests):
    """Adding several deeds with +=, and trials."""

    def setUp(self):
        self.form = example_form()
        self.start = plainway.start(self.form)
        self.live = Live(self.form, RULE)
        self.rows = [("enter", "a", "on"), ("answer", 0), ("send",), ("answer", 0), ("reset",)]

    def test_adding_lists_and_tuples(self):
        live = self.live
        live += self.rows
        self.assertIs(live, self.live)
        self.assert_told(live, self.start, self.rows)
        live += tuple(self.rows)
        self.assertIs(live, self.live)
        self.assert_told(live, self.start, self.rows * 2)
        self.assertEqual(live.seen(), [
            (None, None), ("m", None), ("m", None), ("m", "x"), ("m", "x"), (None, None),
            ("m", None), ("m", None), ("m", "x"), ("m", "x"), (None, None)])

    def test_adding_no_deeds(self):
        live = self.live
        for rows in ([], ()):
            live += rows
            self.assertIs(live, self.live)
            self.assert_told(live, self.start, [])

    def test_adding_its_own_deeds(self):
        live = self.live
        live += self.rows
        live += live.deeds_done()
        self.assert_told(live, self.start, self.rows * 2)

    def test_a_trial_is_taken_back(self):
        self.live.send()
        before = copy.deepcopy(all_told(self.live))
        for rows in (self.rows, tuple(self.rows)):
            found = self.live.trial(rows)
            self.assertEqual(found, [
                ("m", None), ("m", None), ("m", "x"), ("m", "x"), (None, None)])
            self.assertIsInstance(found, list)
            self.assertEqual(all_told(self.live), before)
        self.assertEqual(self.live.trial([]), [])
        self.assertEqual(self.live.trial(()), [])

    def test_deeds_that_do_nothing_count(self):
        rows = [("enter", "a", "off"), ("answer", 0)]
        self.assertEqual(self.live.trial(rows), [(None, None)] * 2)
        self.live += rows
        self.assertEqual(len(self.live), 2)

    def test_a_wrong_deed_anywhere(self):
        self.live["a"] = "on"
        for wrong in [*WRONG_DEEDS, *extreme_values()]:
            for at in range(4):
                rows = self.rows[:at] + [wrong] + self.rows[at:3]
                for given in (rows, tuple(rows), [*rows, ("leave", "zz"), None]):
                    self.assert_unchanged(self.live, lambda: self.live.__iadd__(given), InvalidDeed,
                                          deed=wrong)
                    self.assert_unchanged(self.live, lambda: self.live.trial(given), InvalidDeed,
                                          deed=wrong)

    def test_a_refused_deed_anywhere(self):
        form = two_far_form().with_room(1)
        live = Live(form, RULE)
        live["c"] = "on"
        for rows, field in (
            ([("send",)], "d"), ([("answer", 0), ("send",), ("leave", "c")], None),
            ([("reset",), ("leave", "c")], "c"), ([("answer", 1), ("leave", "d"), ("zz",)], "d"),
            ([("answer", 0), ("enter", "c", "off"), ("leave", "d"), ("answer", 0)], "d"),
        ):
            for given in (rows, tuple(rows)):
                for act in (live.trial, live.__iadd__):
                    before = copy.deepcopy(all_told(live))
                    if field is None:
                        if act == live.trial:
                            self.assertEqual(act(given), [("far", None), ("far", None), ("far", None)])
                        continue
                    with self.assertRaises(TooManyAsked) as caught:
                        act(given)
                    self.assertEqual(caught.exception.field, field)
                    self.assertEqual(all_told(live), before)

    def test_the_first_deed_that_fails_is_told(self):
        form = two_far_form().with_room(1)
        live = Live(form, RULE)
        with self.assertRaises(InvalidDeed):
            live.trial([("leave", "c"), ("zz",), ("leave", "d")])
        with self.assertRaises(TooManyAsked):
            live.trial([("leave", "c"), ("leave", "d"), ("zz",)])

    def test_the_deeds_stay_as_they_are(self):
        rows = list(self.rows)
        live = self.live
        live += rows
        live.trial(rows)
        self.assertEqual(rows, self.rows)
        rows.clear()
        self.assertEqual(live.deeds_done(), self.rows)


class UndoTests(LiveTests):
    def test_each_deed_is_taken_back(self):
        form = example_form()
        live = Live(form, RULE)
        done = [("enter", "a", "on"), ("send",), ("answer", 0), ("answer", 0), ("enter", "a", "off"),
                ("send",), ("answer", 0), ("reset",), ("enter", "a", "off")]
        live += done
        self.assertEqual(live.sent(), [("off", "off")])
        while done:
            self.assertEqual(live.undo(), done.pop())
            self.assert_told(live, plainway.start(form), done)
        self.assert_unchanged(live, live.undo, NothingToUndo)

    def test_what_was_sent_is_taken_back(self):
        live = Live(two_far_form(), RULE.with_part("sending", "go"))
        live.send()
        live["c"] = "on"
        live.send()
        self.assertEqual(live.sent(), [("off", "off"), ("on", "off")])
        self.assertEqual(live.undo(), ("send",))
        self.assertEqual(live.sent(), [("off", "off")])
        self.assertEqual(live.undo(), ("enter", "c", "on"))
        self.assertEqual(live.undo(), ("send",))
        self.assertEqual(live.sent(), [])

    def test_deeds_of_one_addition_are_taken_back_one_by_one(self):
        live = Live(example_form(), RULE)
        live += [("leave", "a"), ("leave", "b")]
        self.assertEqual(live.undo(), ("leave", "b"))
        self.assertEqual(live.deeds_done(), [("leave", "a")])

    def test_an_answer_comes_again_behind_undo(self):
        live = Live(lone_form(), RULE)
        live["f"] = "on"
        first = live.answer(0)
        live.undo()
        self.assertEqual(live.answer(0), first)
        self.assertEqual(live.errors, {"f": "far"})


class ForkTests(LiveTests):
    def test_a_fork_has_the_same_beginning_and_deeds(self):
        form = two_far_form()
        for standing in (None, standing_of(form, "on on", "c", errors={"c": "zz"})):
            live = Live(form, RULE, standing=standing)
            live += [("leave", "c"), ("send",), ("answer", 0)]
            other = live.fork()
            self.assertIsInstance(other, Live)
            self.assertIsNot(other, live)
            self.assertIs(other.form, form)
            self.assertIs(other.rule, RULE)
            self.assertEqual(all_told(other), all_told(live))
            while len(other):
                other.undo()
            self.assertEqual(other.standing(), standing or plainway.start(form))
            self.assertRaises(NothingToUndo, other.undo)
            self.assertEqual(len(live), 3)

    def test_what_one_does_leaves_the_other_as_it_is(self):
        acts = [
            lambda one: one.perform(("enter", "c", "on")), lambda one: one.undo(),
            lambda one: one.__setitem__("d", "on"), lambda one: one.__iadd__([("reset",), ("send",)]),
            lambda one: one.leave("c"), lambda one: one.send(), lambda one: one.answer(0),
            lambda one: one.reset(), lambda one: one.fork().reset(), lambda one: one.trial([("reset",)]),
        ]
        for act in acts:
            for turn in (False, True):
                live = Live(two_far_form(), RULE)
                live.send()
                other = live.fork()
                acting, resting = (live, other) if turn else (other, live)
                before = copy.deepcopy(all_told(resting))
                act(acting)
                self.assertEqual(all_told(resting), before)

    def test_a_fork_of_a_live_form_without_deeds(self):
        live = Live(example_form(), RULE)
        other = live.fork()
        other.send()
        self.assertEqual((len(live), len(other)), (0, 1))


class NewValuesTests(LiveTests):
    def test_returned_lists_and_dicts_are_new_ones(self):
        live = Live(example_form(), RULE.with_part("sending", "go"))
        live += [("send",), ("enter", "a", "on")]
        before = copy.deepcopy(all_told(live))
        for given in (live.deeds_done, live.seen, live.sent, lambda: live.trial([("send",)])):
            first = given()
            first.append("more")
            first[0] = None
            self.assertNotEqual(given(), first)
        live.errors["b"] = "more"
        live.errors.clear()
        self.assertEqual(all_told(live), before)
        self.assertEqual(live.errors, {"a": "m"})

    def test_kinds_of_what_is_returned(self):
        live = Live(example_form(), RULE)
        for value in (live.perform(("send",)), live.leave("a"), live.send(), live.answer(0),
                      live.reset(), live.last_events(), live.standing()):
            self.assertIsInstance(value, tuple)
        for value in (live.deeds_done(), live.seen(), live.sent(), live.trial([])):
            self.assertIsInstance(value, list)
        self.assertIsInstance(live.errors, dict)


class SecondWayTests(LiveTests):
    """Long sequences of everything that a live form does, against a list of deeds."""

    def some_rows(self, form, dice):
        rows = [dice.choice(deeds(form)) for _ in range(dice.randrange(5))]
        if dice.random() < 0.3:
            rows.insert(dice.randrange(len(rows) + 1), dice.choice(WRONG_DEEDS))
        return rows if dice.random() < 0.5 else tuple(rows)

    def outcome(self, form, rule, beginning, done):
        """The errors after each of the deeds, or what the first one that fails raises."""
        standing, errors = beginning, []
        for deed in done:
            if not plainway.is_deed(form, deed):
                return (InvalidDeed, deed)
            try:
                standing = plainway.done(form, rule, standing, deed)[0]
            except plainway.Refused as refused:
                return (TooManyAsked, refused.field)
            errors.append(standing[2])
        return errors

    def act(self, live, beginning, done, dice):
        """Do one thing; returns the deeds behind it."""
        form, rule = live.form, live.rule
        kind = dice.choice(["perform", "item", "add", "trial", "undo", "fork"])
        if kind == "undo":
            if not done:
                self.assertRaises(NothingToUndo, live.undo)
                return done
            self.assertEqual(live.undo(), done[-1])
            return done[:-1]
        if kind == "fork":
            live.fork().reset()
            return done
        rows = self.some_rows(form, dice)
        if kind == "perform":
            rows = [dice.choice(deeds(form))]
        if kind == "item":
            name, word = dice.choice(form.field_names()), dice.choice(form.words)
            rows = [] if live[name] == word else [("enter", name, word)]
        calls = {
            "perform": lambda: live.perform(*rows), "item": lambda: live.__setitem__(name, word),
            "add": lambda: live.__iadd__(rows), "trial": lambda: live.trial(rows),
        }
        found = self.outcome(form, rule, beginning, [*done, *rows])
        if isinstance(found, tuple):
            with self.assertRaises(found[0]) as caught:
                calls[kind]()
            self.assertEqual(list(vars(caught.exception).values()), [found[1]])
            return done
        given = calls[kind]()
        if kind == "trial":
            self.assertEqual(given, found[len(done):])
            return done
        return [*done, *rows]

    def test_long_sequences(self):
        dice = random.Random(22)
        for at, rule in enumerate(many_rules()):
            form = many_forms()[at % 9]
            beginning = any_standing(form, rule, dice) if at % 2 else None
            live = Live(form, rule, standing=beginning)
            beginning = beginning or plainway.start(form)
            done = []
            for _ in range(25):
                done = self.act(live, beginning, done, dice)
                self.assert_told(live, beginning, done)


if __name__ == "__main__":
    unittest.main()
