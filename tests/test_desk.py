"""Point 46: the desk, its edits, its watched kinds, its bound, and what its books say."""

import random
import unittest

from asserts import Asserts
from plainbook import plain_book
from samples import example_form, extreme_values, lone_form, odd_values, small_forms, two_far_form

from wrongshown.books import Book
from wrongshown.desk import Desk
from wrongshown.errors import (
    InvalidBound, InvalidForm, InvalidKind, InvalidRules, InvalidTable, NothingToRedo, NothingToUndo,
    UnknownField,
)
from wrongshown.forms import Form
from wrongshown.judge import KINDS
from wrongshown.rules import Rule, all_rules
from wrongshown.verdicts import Verdict

NONE = (None, None)
RULES = [Rule("enter", "leave", "own"), Rule("enter", "enter", "own"), Rule("leave", "leave", "looks", taken="any")]


def short_form(near=("m", None), far=None):
    return Form(("off", "on"), (("f", ("off", None, near, far)),), room=1)


def told(desk):
    """All that a desk shows without its edits being undone."""
    return desk.current, desk.watched, desk.bound, len(desk)


def line(desk):
    """All forms of a desk, the edits to undo and to do again included; the desk is put back."""
    forms = []
    back = 0
    while len(desk):
        desk.undo()
        back += 1
    while True:
        forms.append(desk.current)
        try:
            desk.redo()
        except NothingToRedo:
            break
    ahead = len(forms) - 1 - back
    for _ in range(ahead):
        desk.undo()
    return forms, back


class DeskTests(Asserts):
    def setUp(self):
        self.form = example_form().with_room(1)
        self.desk = Desk(self.form, RULES)

    def assert_unchanged(self, kind, attributes, call, *args):
        """The call raises this error, and the desk is as it was."""
        before = (told(self.desk), line(self.desk))
        self.assert_refused(kind, attributes, call, *args)
        self.assertEqual((told(self.desk), line(self.desk)), before)

    def put(self, field, kind, table):
        self.desk[field, kind] = table

    def read(self, field, kind):
        return self.desk[field, kind]

    def watch(self, kind):
        desk = self.desk
        desk |= kind
        self.assertIs(desk, self.desk)

    def unwatch(self, kind):
        desk = self.desk
        desk -= kind
        self.assertIs(desk, self.desk)


class BeginTests(DeskTests):
    def test_a_new_desk(self):
        self.assertIs(self.desk.current, self.form)
        self.assertEqual(told(self.desk), (self.form, (), 2000, 0))
        self.assertEqual(line(self.desk), ([self.form], 0))
        self.assertEqual(self.desk.verdicts(), [Verdict([])] * 3)
        self.assertEqual(Desk(self.form, RULES, limit=7).bound, 7)

    def test_limits_that_are_none(self):
        for value in [*odd_values(), *extreme_values(), 0, 10001]:
            if type(value) is int and 1 <= value <= 10000:
                continue
            for rules in (RULES, [], RULES * 3):
                self.assert_refused(InvalidBound, {"value": value}, Desk, self.form, rules, limit=value)
        for value in (1, 10000):
            self.assertEqual(Desk(self.form, RULES, limit=value).bound, value)

    def test_the_number_of_rules(self):
        for rules in ([], (), RULES * 2 + RULES[:1], tuple(RULES * 4)):
            self.assert_refused(InvalidRules, {}, Desk, self.form, rules)
            self.assert_refused(InvalidRules, {}, Desk, self.form, rules, limit=1)
        for many in range(1, 7):
            self.assertEqual(len(Desk(short_form(), (RULES * 2)[:many]).verdicts()), many)

    def test_a_list_of_rules_that_is_changed_afterwards(self):
        rules = [RULES[0]]
        desk = Desk(short_form(), rules)
        desk |= "stale"
        held = desk.verdicts()
        self.assertTrue(held[0])
        rules[0] = RULES[1]
        rules.append(RULES[2])
        self.assertEqual(desk.verdicts(), held)
        rules.clear()
        self.assertEqual(desk.verdicts(), held)

    def test_the_list_of_rules_stays_as_it_is(self):
        rules = list(RULES)
        desk = Desk(self.form, rules)
        desk["a", "far"] = NONE
        desk.verdicts()
        self.assertEqual([rule == other for rule, other in zip(rules, RULES)], [True] * 3)
        self.assertEqual(len(rules), 3)


class WatchTests(DeskTests):
    def test_kinds_are_watched_in_their_order(self):
        dice = random.Random(46)
        for _ in range(20):
            self.desk = Desk(self.form, RULES)
            watched = set()
            for kind in dice.choices(KINDS, k=12):
                if dice.random() < 0.6:
                    self.watch(kind)
                    watched.add(kind)
                else:
                    self.unwatch(kind)
                    watched.discard(kind)
                self.assertEqual(self.desk.watched, tuple(kind for kind in KINDS if kind in watched))
                self.assertIs(type(self.desk.watched), tuple)
        self.assertEqual((len(self.desk), self.desk.current), (0, self.form))

    def test_kinds_that_are_watched_already_or_not_watched(self):
        self.unwatch("stale")
        self.assertEqual(self.desk.watched, ())
        self.watch("stale")
        self.watch("stale")
        self.assertEqual(self.desk.watched, ("stale",))
        self.unwatch("full")
        self.assertEqual(self.desk.watched, ("stale",))
        self.unwatch("stale")
        self.assertEqual(self.desk.watched, ())

    def test_words_that_are_no_kinds(self):
        self.watch("sent")
        for kind in ("", "Stale", "stale ", "f", "near", "x" * 30):
            for call in (self.watch, self.unwatch):
                self.assert_unchanged(InvalidKind, {"kind": kind}, call, kind)

    def test_watching_is_no_edit(self):
        self.desk["a", "far"] = NONE
        self.desk.undo()
        self.watch("stale")
        self.unwatch("stale")
        self.watch("full")
        self.desk.set_bound(77)
        self.assertEqual(len(self.desk), 0)
        self.desk.redo()
        self.assertEqual(told(self.desk), (self.form.with_table("a", "far", NONE), ("full",), 77, 1))
        self.desk.undo()
        self.assertEqual(told(self.desk), (self.form, ("full",), 77, 0))


class BoundTests(DeskTests):
    def test_setting_the_bound(self):
        for value in (1, 10000, 5, 2000):
            self.assertIsNone(self.desk.set_bound(value))
            self.assertEqual(told(self.desk), (self.form, (), value, 0))

    def test_values_that_are_no_bounds(self):
        for value in [*odd_values(), *extreme_values(), 0, -1, 10001]:
            if type(value) is not int or not 1 <= value <= 10000:
                self.assert_unchanged(InvalidBound, {"value": value}, self.desk.set_bound, value)

    def test_none_where_the_bound_is_too_small(self):
        desk = Desk(short_form(), RULES)
        sizes = [len(Book(short_form(), rule)) for rule in RULES]
        self.assertGreater(len(set(sizes)), 1)
        desk |= "stale"
        full = desk.verdicts()
        for bound in range(1, max(sizes) + 2):
            desk.set_bound(bound)
            wanted = [item if size <= bound else None for item, size in zip(full, sizes)]
            self.assertEqual(desk.verdicts(), wanted)
            unwatched = [None if item is None else Verdict([]) for item in wanted]
            self.assertEqual(Desk(short_form(), RULES, limit=bound).verdicts(), unwatched)
        # Also if no kind is watched.
        desk -= "stale"
        desk.set_bound(1)
        self.assertEqual(desk.verdicts(), [None] * 3)


class TableTests(DeskTests):
    def test_reading_tables(self):
        self.assertEqual(self.desk["a", "near"], (None, "m"))
        self.assertIsNone(self.desk["a", "far"])
        self.assertEqual(self.desk["b", "near"], ((None, "x"), NONE))
        self.assertEqual(self.desk["b", "far"], (None, "far"))
        self.assertEqual(len(self.desk), 0)

    def test_fields_and_kinds_that_are_none(self):
        for value in [*odd_values(), *extreme_values(), "A", "a ", ("a", "near")]:
            if value not in ("a", "b"):
                for kind in ("near", "wrong", None, value):
                    self.assert_unchanged(UnknownField, {"field": value}, self.read, value, kind)
                    self.assert_unchanged(UnknownField, {"field": value}, self.put, value, kind, NONE)
            if value not in ("near", "far"):
                self.assert_unchanged(InvalidTable, {"kind": value}, self.read, "a", value)
                self.assert_unchanged(InvalidTable, {"kind": value}, self.put, "a", value, NONE)
                self.assert_unchanged(InvalidTable, {"kind": value}, self.put, "b", value, None)

    def test_tables_that_do_not_fit(self):
        for value in [*odd_values(), *extreme_values(), (NONE, NONE), [None, None]]:
            if value not in (NONE, ("off", "on")):
                self.assert_unchanged(InvalidForm, {"part": "near", "field": "a"}, self.put, "a", "near", value)
                if value is not None:
                    self.assert_unchanged(InvalidForm, {"part": "far", "field": "b"}, self.put, "b", "far", value)

    def test_an_edit(self):
        self.put("a", "far", (None, "late"))
        self.assertEqual(self.desk["a", "far"], (None, "late"))
        self.assertEqual(self.desk.current, self.form.with_table("a", "far", (None, "late")))
        self.put("b", "near", (NONE, NONE))
        self.assertEqual(self.desk["b", "near"], (NONE, NONE))
        self.assertEqual(self.desk["a", "far"], (None, "late"))
        self.assertEqual(len(self.desk), 2)
        # The form that was passed is another one.
        self.assertEqual(self.form, example_form().with_room(1))

    def test_an_edit_that_changes_nothing_is_one(self):
        self.put("a", "far", None)
        self.assertEqual(told(self.desk), (self.form, (), 2000, 1))
        self.desk.undo()
        self.assertEqual(len(self.desk), 0)

    def test_a_desk_is_not_iterated_over(self):
        with self.assertRaises(TypeError):
            list(self.desk)


class EditTests(DeskTests):
    def test_putting_a_form(self):
        other = lone_form()
        self.assertIsNone(self.desk.put_form(other))
        self.assertIs(self.desk.current, other)
        self.assertIsNone(self.desk.put_form(other))
        self.assertIsNone(self.desk.put_form(lone_form()))
        self.assertEqual(len(self.desk), 3)
        for many, form in ((2, other), (1, other), (0, self.form)):
            self.assertIsNone(self.desk.undo())
            self.assertEqual((len(self.desk), self.desk.current), (many, form))

    def test_nothing_to_undo_or_to_do_again(self):
        self.assert_unchanged(NothingToUndo, {}, self.desk.undo)
        self.assert_unchanged(NothingToRedo, {}, self.desk.redo)
        self.put("a", "far", NONE)
        self.assert_unchanged(NothingToRedo, {}, self.desk.redo)
        self.desk.undo()
        self.assert_unchanged(NothingToUndo, {}, self.desk.undo)
        self.assertIsNone(self.desk.redo())
        self.assert_unchanged(NothingToRedo, {}, self.desk.redo)

    def test_a_new_edit_behind_an_undo(self):
        for table in (NONE, (None, "p"), (None, "q")):
            self.put("a", "far", table)
        self.desk.undo()
        self.desk.undo()
        self.assertEqual(line(self.desk)[1], 1)
        self.assertEqual(len(line(self.desk)[0]), 4)
        self.put("a", "near", NONE)
        self.assert_unchanged(NothingToRedo, {}, self.desk.redo)
        self.assertEqual(len(self.desk), 2)
        self.assertEqual((self.desk["a", "far"], self.desk["a", "near"]), (NONE, NONE))
        self.desk.undo()
        self.assertEqual((self.desk["a", "far"], self.desk["a", "near"]), (NONE, (None, "m")))
        self.desk.put_form(lone_form())
        self.assert_unchanged(NothingToRedo, {}, self.desk.redo)

    def test_an_edit_that_raises_keeps_the_edits_to_do_again(self):
        self.put("a", "far", NONE)
        self.put("b", "far", None)
        self.desk.undo()
        for field, kind, table, error, attributes in (
            ("c", "near", NONE, UnknownField, {"field": "c"}),
            ("a", "first", NONE, InvalidTable, {"kind": "first"}),
            ("a", "near", (None,), InvalidForm, {"part": "near", "field": "a"}),
        ):
            self.assert_unchanged(error, attributes, self.put, field, kind, table)
        self.desk.redo()
        self.assertIsNone(self.desk["b", "far"])

    def test_many_edits_against_two_lists(self):
        dice = random.Random(47)
        past, ahead, now = [], [], self.form
        for _ in range(400):
            choice = dice.choice(["put", "put", "undo", "undo", "redo", "form", "bad"])
            if choice == "put":
                name, kind = dice.choice("ab"), dice.choice(["near", "far"])
                row = (dice.choice([None, "m", "n"]), dice.choice([None, "x"]))
                table = (row, row) if (name, kind) == ("b", "near") else row
                if now.field_names() == ("a", "b"):
                    self.put(name, kind, table)
                    past, ahead, now = past + [now], [], now.with_table(name, kind, table)
                    self.assertEqual(self.desk[name, kind], table)
            elif choice == "form":
                other = dice.choice([example_form(), lone_form(), now])
                self.desk.put_form(other)
                past, ahead, now = past + [now], [], other
            elif choice == "undo" and past:
                self.desk.undo()
                ahead, now, past = ahead + [now], past[-1], past[:-1]
            elif choice == "redo" and ahead:
                self.desk.redo()
                past, now, ahead = past + [now], ahead[-1], ahead[:-1]
            elif choice == "bad":
                self.assert_refused(UnknownField, {"field": "z"}, self.put, "z", "near", NONE)
            self.assertEqual((self.desk.current, len(self.desk)), (now, len(past)))
        self.assertEqual(line(self.desk), (past + [now] + ahead[::-1], len(past)))


class VerdictTests(DeskTests):
    def wanted(self, form, kinds, resets=True, bound=2000):
        found = []
        for rule in RULES:
            book = plain_book(form, rule, resets)
            pairs = [pair for pair in book.faults() if pair[0] in kinds]
            found.append(None if len(book.standings) > bound else Verdict(pairs))
        return found

    def test_behind_each_change(self):
        desk = self.desk
        self.assertEqual(desk.verdicts(), self.wanted(self.form, ()))
        desk |= "stale"
        self.assertEqual(desk.verdicts(), self.wanted(self.form, ["stale"]))
        desk |= "unshown"
        self.assertEqual(desk.verdicts(), self.wanted(self.form, ["stale", "unshown"]))
        desk["b", "near"] = (NONE, NONE)
        other = self.form.with_table("b", "near", (NONE, NONE))
        self.assertEqual(desk.verdicts(), self.wanted(other, ["stale", "unshown"]))
        desk.undo()
        self.assertEqual(desk.verdicts(), self.wanted(self.form, ["stale", "unshown"]))
        desk.redo()
        desk -= "unshown"
        self.assertEqual(desk.verdicts(), self.wanted(other, ["stale"]))
        desk.put_form(two_far_form().with_room(1))
        desk |= "full"
        desk |= "elder"
        kinds = ["stale", "full", "elder"]
        self.assertEqual(desk.verdicts(), self.wanted(desk.current, kinds))
        sizes = [len(Book(desk.current, rule)) for rule in RULES]
        self.assertGreater(len(set(sizes)), 1)
        for bound in (min(sizes), max(sizes) - 1, max(sizes), 1):
            desk.set_bound(bound)
            self.assertEqual(desk.verdicts(), self.wanted(desk.current, kinds, bound=bound))

    def test_with_and_without_resets(self):
        for resets in (True, False):
            desk = Desk(lone_form(), RULES, resets=resets)
            for kind in KINDS:
                desk |= kind
            self.assertEqual(desk.verdicts(), self.wanted(lone_form(), KINDS, resets=resets))
            sizes = [len(Book(lone_form(), rule, resets=resets)) for rule in RULES]
            desk.set_bound(max(sizes) - 1)
            self.assertIn(None, desk.verdicts())
            self.assertEqual(desk.verdicts(), self.wanted(lone_form(), KINDS, resets, max(sizes) - 1))

    def test_all_kinds_of_small_forms(self):
        dice = random.Random(48)
        for form in small_forms()[3:8]:
            rules = dice.sample(all_rules(), 2)
            desk = Desk(form, rules)
            watched = dice.sample(KINDS, 4)
            for kind in watched:
                desk |= kind
            wanted = [Verdict([pair for pair in plain_book(form, rule).faults() if pair[0] in watched])
                      for rule in rules]
            self.assertEqual(desk.verdicts(), wanted)

    def test_the_lists_are_new_ones(self):
        self.watch("stale")
        self.assert_new_list(self.desk.verdicts)
        self.assert_new_list(lambda: self.desk.attempt([]))
        self.desk.verdicts()[0].pairs().clear()
        self.assertTrue(self.desk.verdicts()[0])

    def test_two_desks_side_by_side(self):
        other = Desk(self.form, RULES)
        self.watch("stale")
        self.put("a", "far", NONE)
        self.desk.set_bound(3)
        self.assertEqual(told(other), (self.form, (), 2000, 0))
        other.put_form(lone_form())
        other.undo()
        self.assertEqual(line(other), ([self.form, lone_form()], 0))
        self.assertEqual(line(self.desk), ([self.form, self.form.with_table("a", "far", NONE)], 1))


class AttemptTests(DeskTests):
    def setUp(self):
        super().setUp()
        self.put("a", "near", NONE)
        self.put("a", "far", (None, "p"))
        self.desk.undo()
        self.watch("stale")
        self.watch("unshown")
        self.watch("full")

    def test_an_attempt_returns_the_verdicts_behind_its_edits(self):
        before = (told(self.desk), line(self.desk))
        edits = [("b", "near", (NONE, NONE)), ("b", "far", None), ("a", "near", ("q", None)), ("b", "far", ("z", "z"))]
        for many in range(5):
            form = self.desk.current
            for edit in edits[:many]:
                form = form.with_table(*edit)
            wanted = [Verdict(Book(form, rule).faults()).only(self.desk.watched) for rule in RULES]
            for passed in (edits[:many], tuple(edits[:many])):
                kept = list(passed)
                self.assertEqual(self.desk.attempt(passed), wanted)
                self.assertEqual(list(passed), kept)
            self.assertEqual((told(self.desk), line(self.desk)), before)
        self.assertEqual(self.desk.attempt([]), self.desk.verdicts())

    def test_edits_build_on_each_other(self):
        desk = Desk(short_form(), RULES[:1])
        desk |= "stale"
        self.assertTrue(desk.verdicts()[0])
        self.assertFalse(desk.attempt([("f", "near", NONE)])[0])
        self.assertTrue(desk.attempt([("f", "near", NONE), ("f", "near", (None, "m"))])[0])
        self.assertEqual(desk["f", "near"], ("m", None))

    def test_an_attempt_that_raises(self):
        good = ("b", "near", (NONE, NONE))
        for bad, error, attributes in (
            (("c", "near", NONE), UnknownField, {"field": "c"}),
            ((["a"], "near", NONE), UnknownField, {"field": ["a"]}),
            (("a", "first", NONE), InvalidTable, {"kind": "first"}),
            (("a", None, NONE), InvalidTable, {"kind": None}),
            (("a", "near", (NONE, NONE)), InvalidForm, {"part": "near", "field": "a"}),
            (("b", "far", (None, "M")), InvalidForm, {"part": "far", "field": "b"}),
            (("b", "near", None), InvalidForm, {"part": "near", "field": "b"}),
        ):
            for edits in ([bad], [good, bad], (good, good, bad, good), [good, bad, ("z", "z", "z")]):
                self.assert_unchanged(error, attributes, self.desk.attempt, edits)

    def test_an_attempt_beyond_the_bound(self):
        desk = Desk(short_form(), RULES[:2])
        sizes = [len(Book(short_form(), rule)) for rule in RULES[:2]]
        desk.set_bound(max(sizes))
        self.assertEqual(desk.verdicts(), [Verdict([])] * 2)
        self.assertEqual(desk.attempt([("f", "far", NONE)]), [None, None])
        self.assertEqual(desk.verdicts(), [Verdict([])] * 2)
        self.assertEqual(told(desk), (short_form(), (), max(sizes), 0))

    def test_an_attempt_keeps_the_edits_to_do_again(self):
        self.desk.attempt([("a", "near", ("q", None))])
        self.desk.redo()
        self.assertEqual(self.desk["a", "far"], (None, "p"))
        self.assertEqual(len(self.desk), 2)


if __name__ == "__main__":
    unittest.main()
