"""Points 10 to 12, 15 and 18: standings, deeds as values, the start, and the list of deeds."""

import copy
import itertools
import random
import unittest

import plainway
from samples import (
    any_standing, example_form, extreme_values, lone_form, many_forms, many_rules, nested, odd_values,
    odd_values_but, same_kind_and_value, standing_of, two_far_form,
)

from wrongshown.doing import begin
from wrongshown.rules import Rule
from wrongshown.standings import deeds, is_at_rest, is_deed, is_standing, start_of

WAITS = Rule("enter", "enter", "own", sending="wait")
RULES = [Rule("enter", "enter", "own", sending=sending) for sending in ("bar", "wait", "go")]


def variants(value, others):
    """Values in which one part of a tuple, at any depth, is another, missing or doubled."""
    yield from others
    if isinstance(value, tuple):
        yield list(value)
        yield dict(enumerate(value))
        yield (value,)
        for more in (None, False, 0, "", "off", ()):
            yield (*value, more)
            yield (more, *value)
        for at, part in enumerate(value):
            yield value[:at] + value[at + 1:]
            yield value[:at] + (part,) + value[at:]
            for other in variants(part, others):
                yield value[:at] + (other,) + value[at + 1:]
    if isinstance(value, bool):
        yield int(value)


class StandingTests(unittest.TestCase):
    def setUp(self):
        self.form = example_form()
        self.asked = (("b", "on", True), ("b", "off", False), ("b", "on", True))
        self.full = (
            ("off", "on"), (True, False), ("m", None), (None, ("on", "far")), self.asked, True
        )

    def judged(self, form, rule, value):
        found = is_standing(form, rule, value)
        self.assertIsInstance(found, bool)
        return found

    def with_part(self, at, value):
        return self.full[:at] + (value,) + self.full[at + 1:]

    def test_a_standing_with_everything(self):
        self.assertTrue(self.judged(self.form, WAITS, self.full))

    def test_standings_that_no_deeds_reach(self):
        # A closed field with an error, an error of no table, an answer known about a word that
        # was never held, two newest questions of one field, and waiting with closed fields.
        for value in (
            standing_of(self.form, "off off", errors={"a": "zzzzzzzz"}),
            standing_of(self.form, "on on", "a b", errors={"a": "x", "b": "m"}),
            standing_of(self.form, "off off", known={"b": ("on", "far")}),
            standing_of(self.form, "off off", asked=[("b", "on", True)] * 3),
            standing_of(self.form, "off off", asked=[("b", "on", False)]),
            standing_of(self.form, "on off", "", errors={"a": "m"}, asked=[("b", "on", True)],
                        waiting=True),
        ):
            self.assertTrue(self.judged(self.form, WAITS, value))

    def test_a_value_of_another_kind_or_length(self):
        for value in [*odd_values(), *extreme_values(), list(self.full), self.full[:5], self.full[1:],
                      (*self.full, None), (self.full,), dict(enumerate(self.full))]:
            self.assertFalse(self.judged(self.form, WAITS, value))

    def test_wrong_words(self):
        for words in [*odd_values_but(("off", "on")), ["off", "on"], ("off",), ("off",) * 3,
                      ("off", "mid"), ("a", "b"), ("off", None), ("off", ["on"]), ("off", ("on",)),
                      {"a": "off", "b": "on"}, ("off", True), ("off", 0), ("off", "")]:
            self.assertFalse(self.judged(self.form, WAITS, self.with_part(0, words)), words)

    def test_wrong_flags_of_open_fields(self):
        for opened in [*odd_values_but((True, False)), [True, False], (True,), (True,) * 3, (1, 0),
                       (True, 0), (1, False), (True, None), (True, "False"), (True, ()), "ab",
                       {"a": True, "b": False}, {0: True, 1: False}, (("a", True), ("b", False))]:
            self.assertFalse(self.judged(self.form, WAITS, self.with_part(1, opened)), opened)

    def test_wrong_errors(self):
        for errors in [*odd_values_but(("off", "on"), (None, None)), [None, None], (None,),
                       (None,) * 3, (None, ""), (None, "abcdefghi"), (None, "M"), (None, "m m"),
                       (None, False), (None, 0), (None, ("m",)), (None, ["m"]), {"b": "m"}, (None, "-"),
                       (None, "m\n"), (None, {})]:
            self.assertFalse(self.judged(self.form, WAITS, self.with_part(2, errors)), errors)
        for errors in itertools.product((None, "m", "a", "off", "abcdefgh"), repeat=2):
            self.assertTrue(self.judged(self.form, WAITS, self.with_part(2, errors)))

    def test_wrong_known(self):
        right = {(None, None), (None, ("on", "far")), (None, ("off", None))}
        for known in [*odd_values_but((None, None)), [None, None], (None,), (None,) * 3,
                      (None, ("on", None)), (None, ("off", "far")), (None, ("on", "m")),
                      (None, ["on", "far"]), (None, ("on",)), (None, ("on", "far", True)),
                      (None, ("far", "on")), (None, ("mid", "far")), (None, ("mid", None)),
                      (None, "on"), (None, ()), (None, False), (None, ("off", False)),
                      (None, ("off", 0)), (None, (["on"], "far")), (None, ("on", ["far"])),
                      (None, (None, None)), (("on", "far"), None), (("off", None), None),
                      (("on", None), ("on", "far")), {"b": ("on", "far")}]:
            self.assertFalse(self.judged(self.form, WAITS, self.with_part(3, known)), known)
        for known in right:
            self.assertTrue(self.judged(self.form, WAITS, self.with_part(3, known)))

    def test_wrong_questions(self):
        good = ("b", "on", True)
        for asked in [*odd_values_but(()), [good], (list(good),), good, ((good,),), (good, None),
                      (("b", "on"),), (("b", "on", True, True),), (("b", "on", 1),),
                      (("b", "off", 0),), (("b", "on", None),), (("b", "on", "True"),),
                      (("b", "mid", True),), (("b", None, True),), (("b", ["on"], True),),
                      (("a", "on", True),), (("c", "on", True),), ((None, "on", True),),
                      ((["b"], "on", True),), ((1, "on", True),), (("on", "b", True),), (good,) * 4,
                      {0: good}, ((),), (good, ("a", "off", False)), "bon", (None,), (good, good, ())]:
            value = (*self.full[:4], asked, False)
            self.assertFalse(self.judged(self.form, WAITS, value), asked)

    def test_no_more_questions_than_there_is_room_for(self):
        for room in (1, 2, 3):
            form = self.form.with_room(room)
            for many in range(5):
                value = (*self.full[:4], (("b", "on", True),) * many, False)
                self.assertEqual(self.judged(form, WAITS, value), many <= room)

    def test_wrong_waiting(self):
        for waiting in [*odd_values_but(True, False), *extreme_values()]:
            self.assertFalse(self.judged(self.form, WAITS, self.with_part(5, waiting)))

    def test_waiting_takes_the_rule_wait_and_a_question(self):
        for rule in RULES:
            for asked, waiting in itertools.product(((), self.asked[:1], self.asked), (True, False)):
                value = (*self.full[:4], asked, waiting)
                right = not waiting or (rule.sending == "wait" and asked != ())
                self.assertEqual(self.judged(self.form, rule, value), right)

    def test_each_clause_broken_alone_at_any_depth(self):
        others = [None, True, False, 0, 1, 2, "", "a", "b", "on", "off", "far", "M", (), [], {},
                  ("on", "far"), ["on", "far"], ("b", "on", True), nested(18, lambda inner: [inner])]
        seen = {True: 0, False: 0}
        for standing in (self.full, standing_of(self.form, "on off", "b", asked=[("b", "on", False)])):
            for value in variants(standing, others):
                for rule in RULES:
                    found = self.judged(self.form, rule, value)
                    self.assertIs(found, plainway.is_standing(self.form, rule, value), value)
                    seen[found] += 1
        self.assertGreater(min(seen.values()), 100)

    def test_the_parts_in_any_mixture(self):
        parts = [
            [("off", "on"), ("on", "mid"), ["off", "on"]],
            [(True, False), (1, 0), (True,)],
            [(None, "m"), (None, "M"), (False, None)],
            [(None, None), (None, ("off", None)), (None, ("off", "far")), (("on", "far"), None)],
            [(), (("b", "on", True),), (("a", "on", True),), [("b", "on", True)]],
            [False, True, 0, None],
        ]
        for value in itertools.product(*parts):
            for rule in RULES:
                found = self.judged(self.form, rule, value)
                self.assertIs(found, plainway.is_standing(self.form, rule, value), value)

    def test_all_standings_of_a_small_form(self):
        form = lone_form().with_room(2)
        pairs = [(word, answer) for word, answer in zip(form.words, form.parts_of("f")[3])]
        questions = [("f", word, flag) for word in form.words for flag in (True, False)]
        rows = [(), *itertools.product(questions, repeat=1), *itertools.product(questions, repeat=2)]
        for word, flag, error, known, asked in itertools.product(
                form.words, (True, False), (None, "m"), [None, *pairs], rows):
            value = ((word,), (flag,), (error,), (known,), asked, False)
            self.assertTrue(is_standing(form, WAITS, value))
            self.assertIs(is_standing(form, WAITS, (*value[:5], True)), asked != ())

    def test_standings_of_many_forms_and_rules(self):
        dice = random.Random(10)
        for form in many_forms():
            for rule in many_rules()[::7]:
                value = any_standing(form, rule, dice)
                self.assertTrue(is_standing(form, rule, value))
                self.assertTrue(plainway.is_standing(form, rule, value))
                for other in many_forms():
                    found = plainway.is_standing(other, rule, value)
                    self.assertIs(is_standing(other, rule, value), found)

    def test_deep_values_in_every_place(self):
        for value in extreme_values():
            for at in range(4):
                row = self.full[at][:1] + (value,)
                self.assertFalse(is_standing(self.form, WAITS, self.with_part(at, row)))
            for known in ((value, "far"), ("on", value)):
                self.assertFalse(is_standing(self.form, WAITS, self.with_part(3, (None, known))))
            for question in ((value, "on", True), ("b", value, True), ("b", "on", value)):
                self.assertFalse(is_standing(self.form, WAITS, self.with_part(4, (question,))))

    def test_the_value_stays_as_it_is(self):
        for value in [*odd_values(), [["off"], [True]], list(self.full)]:
            before = copy.deepcopy(value)
            is_standing(self.form, WAITS, value)
            self.assertEqual(value, before)


class StartTests(unittest.TestCase):
    def test_the_start_of_the_example(self):
        start = (("off", "off"), (False, False), (None, None), (None, None), (), False)
        self.assertEqual(start_of(example_form()), start)

    def test_the_start_of_each_form_is_a_standing_at_rest(self):
        for form in many_forms():
            for rule in RULES:
                start = begin(form, rule).after
                self.assertEqual(start, plainway.start(form))
                self.assertEqual(start, start_of(form))
                self.assertTrue(is_standing(form, rule, start))
                self.assertIs(is_at_rest(start), True)

    def test_at_rest_nothing_is_asked_and_the_form_does_not_wait(self):
        form = two_far_form()
        question = ("c", "on", False)
        for opened, errors in itertools.product(("", "c d"), ({}, {"c": "m"})):
            for asked, waiting in itertools.product(((), (question,), (question,) * 3), (True, False)):
                standing = standing_of(
                    form, "off on", opened, errors=errors, known={"c": ("off", None)}, asked=asked,
                    waiting=waiting,
                )
                self.assertIs(is_at_rest(standing), asked == () and not waiting)


class DeedTests(unittest.TestCase):
    def setUp(self):
        self.form = example_form()

    def judged(self, value):
        found = is_deed(self.form, value)
        self.assertIsInstance(found, bool)
        return found

    def test_every_deed_of_every_form(self):
        for form in many_forms():
            for deed in deeds(form):
                self.assertIs(is_deed(form, deed), True)
                for other in many_forms():
                    self.assertIs(is_deed(other, deed), plainway.is_deed(other, deed))

    def test_values_of_any_kind(self):
        for value in [*odd_values(), *extreme_values()]:
            self.assertFalse(self.judged(value))

    def test_wrong_deeds(self):
        for value in (
            ("enter",), ("enter", "a"), ("enter", "a", "mid"), ("enter", "c", "on"),
            ("enter", "on", "a"), ("enter", "a", "on", "on"), ("enter", "a", None),
            ("enter", None, "on"), ("enter", "a", ["on"]), ("enter", ["a"], "on"), ("enter", "a", 1),
            ("enter", 0, "on"), ("enter", "a", ""), ("Enter", "a", "on"), ["enter", "a", "on"],
            ("enter", ("a", "on")), ("leave",), ("leave", "c"), ("leave", "on"), ("leave", "a", "on"),
            ("leave", "a", "b"), ("leave", None), ("leave", 0), ("leave", ["a"]), ("leave", ("a",)),
            ["leave", "a"], ("leaves", "a"), ("send", "a"), ("send", None), ("send", 0), ["send"],
            "send", ("sends",), ("answer",), ("answer", -1), ("answer", 3), ("answer", 10 ** 30),
            ("answer", True), ("answer", False), ("answer", "0"), ("answer", None), ("answer", 0, 0),
            ("answer", "a"), ("answer", (0,)), ("answer", [0]), ["answer", 0], ("reset", None),
            ("reset", True), ["reset"], "reset", ("undo",), ("open", "a"), (("send",),), ((), "a"),
            (["leave"], "a"), (("enter",), "a", "on"), (None, "a", "on"), {"send": None}, {0: "send"},
            ("wait",), ("answer", b""), ("", "a"), ("enter", "a", "on", None),
        ):
            self.assertFalse(self.judged(value), value)

    def test_each_part_broken_alone(self):
        others = [*odd_values(), "send", "leave", "reset", "answer", *extreme_values()]
        seen = {True: 0, False: 0}
        for deed in deeds(self.form):
            for value in variants(deed, others):
                found = self.judged(value)
                self.assertIs(found, plainway.is_deed(self.form, value))
                seen[found] += 1
        self.assertGreater(min(seen.values()), 20)

    def test_answers_that_are_not_integers(self):
        for index in [*odd_values_but(0, 1, 2), *extreme_values()]:
            self.assertFalse(self.judged(("answer", index)))


class ListOfDeedsTests(unittest.TestCase):
    def test_the_deeds_of_the_example_in_their_order(self):
        listed = [
            ("enter", "a", "off"), ("enter", "a", "on"), ("enter", "b", "off"), ("enter", "b", "on"),
            ("leave", "a"), ("leave", "b"), ("send",), ("answer", 0), ("answer", 1), ("answer", 2),
        ]
        form = example_form()
        self.assertEqual(deeds(form), [*listed, ("reset",)])
        self.assertEqual(deeds(form, resets=True), [*listed, ("reset",)])
        self.assertEqual(deeds(form, resets=False), listed)

    def test_the_deeds_of_every_form(self):
        for form in many_forms():
            for resets in (True, False):
                found = deeds(form, resets=resets)
                self.assertEqual(found, plainway.deeds(form, resets))
                self.assertIsInstance(found, list)
                self.assertEqual(len(found), len(set(found)))

    def test_all_answers_are_listed_whatever_the_room_is(self):
        for form in (two_far_form().with_room(1), many_forms()[-1]):
            answers = [deed for deed in deeds(form) if deed[0] == "answer"]
            self.assertEqual(answers, [("answer", 0), ("answer", 1), ("answer", 2)])
            self.assertTrue(all(same_kind_and_value(deed[1], k) for k, deed in enumerate(answers)))

    def test_the_list_is_a_new_one(self):
        form = example_form()
        deeds(form).clear()
        self.assertEqual(len(deeds(form)), 11)

    def test_resets_is_passed_by_keyword_alone(self):
        with self.assertRaises(TypeError):
            deeds(example_form(), False)


if __name__ == "__main__":
    unittest.main()
