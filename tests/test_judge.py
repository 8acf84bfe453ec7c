"""Points 20 and 21: the faults of a start and of deeds, and the six facts about them."""

import random
import unittest

import plainway
from samples import (
    any_standing, example_form, lone_form, many_forms, many_rules, standing_of, two_far_form,
)

from wrongshown.doing import begin, step
from wrongshown.errors import TooManyAsked
from wrongshown.forms import Form
from wrongshown.judge import KINDS, faults
from wrongshown.rules import Rule, all_rules
from wrongshown.standings import deeds


def tried(form, rule, standing, deed):
    """The Step of a deed, or None if it is refused."""
    try:
        return step(form, rule, standing, deed)
    except TooManyAsked:
        return None


def walked(form, rule, done):
    """The Steps of the start and of deeds that follow each other; a refused deed has None."""
    rows = [begin(form, rule)]
    standing = rows[0].after
    for deed in done:
        rows.append(tried(form, rule, standing, deed))
        standing = standing if rows[-1] is None else rows[-1].after
    return rows


def some_deeds(form, dice, many):
    """Deeds that go on well: about as many answers as questions, and few resets."""
    listed = deeds(form)
    return [listed[-1] if dice.random() < 0.04 else dice.choice(listed[:-1]) for _ in range(many)]


class FaultTests(unittest.TestCase):
    def assert_faults(self, form, rule, standing, deed, wanted):
        found = faults(form, rule, step(form, rule, standing, deed))
        self.assertIsInstance(found, list)
        self.assertEqual(found, wanted)

    def test_the_kinds(self):
        self.assertEqual(KINDS, ("unshown", "stale", "elder", "sent", "early", "stuck", "full"))

    def test_the_start_has_no_faults(self):
        for form in many_forms():
            for rule in many_rules()[::20]:
                self.assertEqual(faults(form, rule, begin(form, rule)), [])

    def test_an_open_field_without_its_error_is_unshown(self):
        form = example_form()
        rule = Rule("enter", "leave", "own")
        self.assert_faults(form, rule, begin(form, rule).after, ("enter", "a", "on"),
                           [("unshown", "a")])

    def test_a_closed_field_is_neither_unshown_nor_stale(self):
        form = example_form()
        rule = Rule("leave", "leave", "own")
        for errors in ({}, {"a": "zz"}):
            self.assert_faults(form, rule, standing_of(form, "off off", errors=errors),
                               ("enter", "a", "on"), [])

    def test_another_error_and_an_error_of_a_right_field_are_stale(self):
        form = example_form()
        rule = Rule("leave", "leave", "own")
        errors = {"a": "zz", "b": "zz"}
        self.assert_faults(form, rule, standing_of(form, "off off", "a b", errors=errors),
                           ("enter", "a", "on"), [("stale", "a"), ("stale", "b")])
        self.assert_faults(form, rule, standing_of(form, "on off", "a b", errors={"a": "m", "b": "x"}),
                           ("enter", "a", "off"), [("stale", "a"), ("stale", "b")])
        self.assert_faults(form, rule, standing_of(form, "off off", "a b", errors={"a": "m", "b": "x"}),
                           ("enter", "a", "on"), [])

    def test_the_far_error_counts_if_there_is_no_near_message(self):
        form = lone_form()
        rule = Rule("enter", "leave", "own")
        for word, error, wanted in (
            ("on", None, [("unshown", "f")]), ("on", "far", []), ("on", "low", [("stale", "f")]),
            ("mid", "m", []), ("mid", "low", [("stale", "f")]), ("mid", None, [("unshown", "f")]),
        ):
            self.assert_faults(form, rule, standing_of(form, "off", "f", errors={"f": error}),
                               ("enter", "f", word), wanted)

    def test_they_are_judged_after_a_deed_that_does_nothing(self):
        form = example_form()
        rule = Rule("send", "leave", "own")
        standing = standing_of(form, "on off", "a b", errors={"b": "zz"})
        for deed in (("enter", "a", "on"), ("answer", 0), ("answer", 2)):
            self.assert_faults(form, rule, standing, deed, [("unshown", "a"), ("stale", "b")])

    def test_they_are_not_judged_unless_the_form_is_at_rest(self):
        form = example_form()
        rule = Rule("send", "leave", "own")
        asked = [("b", "off", True)]
        for waiting in (False, True):
            standing = standing_of(form, "on off", "a b", errors={"b": "zz"}, asked=asked,
                                   waiting=waiting)
            self.assert_faults(form, rule, standing, ("answer", 1), [])
            self.assert_faults(form, rule, standing, ("answer", 0),
                               [("unshown", "a"), ("stale", "b")])

    def test_an_elder_answer_that_is_taken(self):
        form = lone_form()
        for taken, about, newest in (
            ("any", "on", True), ("any", "on", False), ("any", "off", False), ("last", "on", True),
            ("last", "on", False), ("last", "off", True), ("same", "on", True), ("same", "off", True),
        ):
            standing = standing_of(form, "off", asked=[("f", about, newest)])
            elder = about == "on" and (taken == "any" or (taken == "last" and newest))
            self.assert_faults(form, Rule("leave", "leave", "own", taken=taken), standing,
                               ("answer", 0), [("elder", "f")] if elder else [])

    def test_elder_does_not_take_rest_nor_an_open_field(self):
        form = two_far_form()
        rule = Rule("leave", "leave", "own", taken="any")
        asked = [("c", "on", True), ("d", "on", True)]
        for index, name in ((0, "c"), (1, "d")):
            self.assert_faults(form, rule, standing_of(form, "off off", asked=asked),
                               ("answer", index), [("elder", name)])

    def test_elder_is_about_the_field_of_the_question(self):
        form = two_far_form()
        rule = Rule("leave", "leave", "own", taken="any")
        self.assert_faults(form, rule, standing_of(form, "off on", asked=[("c", "off", True)]),
                           ("answer", 0), [])
        self.assert_faults(form, rule, standing_of(form, "off on", asked=[("d", "off", True)]),
                           ("answer", 0), [("elder", "d")])

    def test_a_form_sent_with_true_errors_and_early(self):
        form = two_far_form()
        rule = Rule("leave", "leave", "own", sending="go")
        self.assert_faults(form, rule, standing_of(form, "on on"), ("send",),
                           [("sent", "c"), ("sent", "d"), ("early", "")])
        self.assert_faults(form, rule, standing_of(form, "on off"), ("send",),
                           [("sent", "c"), ("early", "")])
        self.assert_faults(form, rule, standing_of(form, "off off"), ("send",), [("early", "")])
        known = {"c": ("off", None), "d": ("off", None)}
        self.assert_faults(form, rule, standing_of(form, "off off", known=known), ("send",), [])
        asked = [("c", "on", True)]
        self.assert_faults(form, rule, standing_of(form, "off off", known=known, asked=asked),
                           ("send",), [("early", "")])

    def test_a_send_that_is_held_or_waits_has_no_such_faults(self):
        form = two_far_form()
        for sending in ("bar", "wait"):
            rule = Rule("leave", "leave", "own", sending=sending)
            self.assert_faults(form, rule, standing_of(form, "on on"), ("send",), [])

    def test_a_form_that_waited_is_sent_with_an_error(self):
        # The word of c changed behind no event: no sequence of deeds leads to this standing.
        form = two_far_form()
        rule = Rule("leave", "leave", "own")
        standing = standing_of(form, "on off", "c d", asked=[("d", "off", True)], waiting=True)
        self.assert_faults(form, rule, standing, ("answer", 0), [("unshown", "c"), ("sent", "c")])

    def test_a_closed_field_can_be_sent_with_its_error(self):
        form = two_far_form()
        rule = Rule("leave", "leave", "own")
        standing = standing_of(form, "on off", asked=[("d", "off", True)], waiting=True)
        self.assert_faults(form, rule, standing, ("answer", 0), [("sent", "c")])

    def test_faults_of_several_kinds_stand_in_their_order(self):
        shape = ("off", None, (None, None), (None, "far"))
        form = Form(("off", "on"), (("z", shape), ("a", shape), ("m", shape)))
        rule = Rule("leave", "leave", "own", taken="any")
        standing = standing_of(form, "on on on", "z a m", asked=[("a", "off", False)], waiting=True)
        self.assert_faults(form, rule, standing, ("answer", 0), [
            ("unshown", "z"), ("unshown", "a"), ("unshown", "m"), ("elder", "a"),
            ("sent", "z"), ("sent", "a"), ("sent", "m")])
        standing = standing_of(form, "on on off", "z a m", errors={"z": "zz", "m": "far"},
                               asked=[("a", "off", False)])
        self.assert_faults(form, rule, standing, ("answer", 0), [
            ("unshown", "a"), ("stale", "z"), ("stale", "m"), ("elder", "a")])

    def test_the_list_is_a_new_one(self):
        form = example_form()
        rule = Rule("enter", "leave", "own")
        made = step(form, rule, begin(form, rule).after, ("enter", "a", "on"))
        faults(form, rule, made).clear()
        self.assertEqual(faults(form, rule, made), [("unshown", "a")])

    def test_every_deed_from_standings_of_any_kind_against_the_second_way(self):
        dice = random.Random(20)
        seen = {}
        for rule in many_rules():
            for form in many_forms():
                standing = any_standing(form, rule, dice)
                for deed in deeds(form):
                    made = tried(form, rule, standing, deed)
                    if made is None:
                        continue
                    found = faults(form, rule, made)
                    self.assertEqual(found, plainway.faults(form, made.after, made.events))
                    self.assertEqual(len(found), len(set(found)))
                    for kind, _ in found:
                        seen[kind] = seen.get(kind, 0) + 1
        self.assertEqual(sorted(seen), ["early", "elder", "sent", "stale", "unshown"])
        self.assertGreater(min(seen.values()), 150)


class FactTests(unittest.TestCase):
    """The six facts of point 21, and that each of their conditions is needed."""

    def assert_facts(self, rule, kinds):
        """The facts 1 to 4 for the kinds of faults of a sequence of deeds."""
        if rule.taken == "same":
            self.assertNotIn("elder", kinds)
        if rule.sending in ("bar", "wait"):
            self.assertNotIn("early", kinds)
        if rule.sending == "bar" or (rule.sending == "wait" and rule.taken in ("same", "last")):
            self.assertNotIn("sent", kinds)
        if rule.checks == "enter" and rule.around == "looks" and rule.taken == "same":
            self.assertNotIn("unshown", kinds)
            self.assertNotIn("stale", kinds)

    def kinds_of(self, form, rule, done):
        kinds = set()
        for made in walked(form, rule, done):
            if made is not None:
                kinds |= {kind for kind, field in faults(form, rule, made)}
        return kinds

    def test_facts_one_to_four(self):
        dice = random.Random(21)
        seen = {}
        for rule in many_rules():
            for form in many_forms():
                kinds = self.kinds_of(form, rule, some_deeds(form, dice, 40))
                self.assert_facts(rule, kinds)
                for kind in kinds:
                    seen.setdefault(kind, []).append(rule)
        self.assertEqual(sorted(seen), ["early", "elder", "sent", "stale", "unshown"])
        # What the facts leave out does happen, so that they are not kept by chance.
        self.assertEqual({rule.taken for rule in seen["elder"]}, {"any", "last"})
        self.assertEqual({rule.sending for rule in seen["early"]}, {"go"})
        self.assertEqual({(rule.sending, rule.taken) for rule in seen["sent"]} - {("wait", "any")},
                         {("go", "any"), ("go", "same"), ("go", "last")})
        for kind in ("unshown", "stale"):
            self.assertEqual({rule.checks for rule in seen[kind]}, {"enter", "leave"})

    def test_a_form_that_waits_and_takes_any_answer_is_sent_with_an_error(self):
        form = two_far_form()
        for taken in ("any", "same", "last"):
            rule = Rule("enter", "enter", "own", taken=taken)
            done = [("leave", "c"), ("enter", "c", "on"), ("send",), ("answer", 1), ("answer", 0),
                    ("answer", 0)]
            rows = walked(form, rule, done)
            self.assertEqual(rows[3].events[-1], ("waits",))
            wanted = [("unshown", "c"), ("sent", "c")] if taken == "any" else []
            self.assertEqual(faults(form, rule, rows[-1]), wanted)

    def test_facts_one_to_four_for_all_standings_of_small_forms(self):
        forms = [
            lone_form().with_table("f", "far", (None, "far", None)),
            Form(("off", "on"), (("f", ("off", None, ("m", None), ("m", "n"))),), room=2),
        ]
        for form in forms:
            for rule in all_rules():
                if rule.around == "looks" and rule.opens != "send" and rule.wipes:
                    self.assert_facts(rule, self.kinds_of_all(form, rule))

    def kinds_of_all(self, form, rule):
        """The kinds of the faults of all deeds from all standings that deeds lead to."""
        kinds = set()
        found = {begin(form, rule).after}
        todo = list(found)
        while todo:
            standing = todo.pop()
            for deed in deeds(form):
                made = tried(form, rule, standing, deed)
                if made is not None:
                    kinds |= {kind for kind, field in faults(form, rule, made)}
                    if made.after not in found:
                        found.add(made.after)
                        todo.append(made.after)
        return kinds

    def test_fact_five(self):
        dice = random.Random(25)
        differ = 0
        for rule in many_rules():
            if rule.wipes:
                continue
            for form in many_forms():
                done = some_deeds(form, dice, 25)
                keeps = [made and made.after for made in walked(form, rule, done)]
                other = rule.with_part("wipes", True)
                wiped = [made and made.after for made in walked(form, other, done)]
                if rule.checks == "enter":
                    self.assertEqual(keeps, wiped)
                differ += keeps != wiped
        self.assertGreater(differ, 50)

    def test_fact_six(self):
        dice = random.Random(26)
        forms = [
            form for form in many_forms() if all(parts[3] is None for name, parts in form.fields)
        ]
        for form in many_forms():
            for name, parts in form.fields:
                form = form.with_table(name, "far", None)
            forms.append(form)
        self.assertEqual(len(forms), 10)
        rules = [rule for rule in many_rules() if (rule.taken, rule.sending) == ("same", "wait")]
        self.assertEqual(len(rules), 36)
        for form in forms:
            for rule in rules:
                done = some_deeds(form, dice, 12)
                looks = self.looks_of(form, rule, done)
                for taken in ("any", "same", "last"):
                    for sending in ("bar", "wait", "go"):
                        other = rule.with_part("taken", taken).with_part("sending", sending)
                        self.assertEqual(self.looks_of(form, other, done), looks)

    def looks_of(self, form, rule, done):
        """The open fields, the errors and what is sent, for each of several deeds."""
        return [
            (made.after[1], made.after[2], [event for event in made.events if event[0] == "sent"])
            for made in walked(form, rule, done)
        ]


if __name__ == "__main__":
    unittest.main()
