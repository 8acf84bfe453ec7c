"""Points 33, 44 and 45: changes of forms and rules, what heals a kind of fault, and rules without faults."""

import itertools
import random
import unittest

from asserts import Asserts
from plainbook import plain_book
from samples import (
    example_form, extreme_values, lone_form, many_rules, odd_values, small_forms, two_far_form,
)

from wrongshown.books import Book
from wrongshown.errors import InvalidBound, InvalidChange, InvalidKind, InvalidRules, LimitExceeded
from wrongshown.forms import Form
from wrongshown.heals import heals, is_change, rules_free, with_changes
from wrongshown.judge import KINDS
from wrongshown.rules import PARTS, Rule

NONE = (None, None)
ALLOWED = {
    "opens": ["enter", "leave", "send"], "checks": ["enter", "leave"],
    "around": ["own", "looks", (), (("a", "b"),), (("b", "a"), ("a", "b")), (("zz", "y"),)],
    "wipes": [True, False], "taken": ["any", "same", "last"], "sending": ["bar", "wait", "go"],
}


def short_form():
    return Form(("off", "on"), (("f", ("off", None, ("m", None), None)),))


def aim(change):
    return change[:2] if change[0] == "rule" else change[:3]


def made(form, rule, changes):
    """A form and a rule with changes made, in a second way: part by part."""
    parts = {part: getattr(rule, part) for part in PARTS}
    fields = {name: list(field) for name, field in form.fields}
    for change in changes:
        if change[0] == "rule":
            parts[change[1]] = change[2]
        else:
            fields[change[1]][{"near": 2, "far": 3}[change[2]]] = change[3]
    opens, checks, around = parts["opens"], parts["checks"], parts["around"]
    other = Rule(opens, checks, around, wipes=parts["wipes"], taken=parts["taken"], sending=parts["sending"])
    return Form(form.words, tuple((name, tuple(field)) for name, field in fields.items()), room=form.room), other


def plain_heals(form, rule, kind, candidates, resets=True):
    """The sets that heal, and the greatest number of standings of the books that are needed."""
    book = plain_book(form, rule, resets)
    most = len(book.standings)
    before = book.kinds()
    if kind not in before:
        return [()], most
    for count in (1, 2):
        found = []
        for changes in itertools.combinations(candidates, count):
            if len({aim(change) for change in changes}) < count:
                continue
            book = plain_book(*made(form, rule, changes), resets)
            most = max(most, len(book.standings))
            if book.kinds() <= before - {kind}:
                found.append(changes)
        if found:
            return found, most
    return [], most


class IsChangeTests(Asserts):
    def setUp(self):
        self.form = example_form()
        self.rule = Rule("enter", "leave", "own")

    def judged(self, value):
        found = is_change(self.form, self.rule, value)
        self.assertIs(type(found), bool)
        return found

    def test_changes_of_the_rule(self):
        for part, values in ALLOWED.items():
            for value in values:
                self.assertTrue(self.judged(("rule", part, value)))

    def test_changes_that_change_nothing(self):
        for part in PARTS:
            self.assertTrue(self.judged(("rule", part, getattr(self.rule, part))))
        for name, (first, looks, near, far) in self.form.fields:
            self.assertTrue(self.judged(("table", name, "near", near)))
            self.assertTrue(self.judged(("table", name, "far", far)))

    def test_values_that_a_part_may_not_have(self):
        for part, values in ALLOWED.items():
            for value in [*odd_values(), *extreme_values(), "Enter", "enter ", ["own"], [("a", "b")],
                          (("a", "a"),), (("a", "b"), ("a", "b")), (("a",),), 1, 0, None]:
                allowed = any(type(value) is type(good) and value == good for good in values)
                if not (part == "around" and type(value) is tuple):
                    self.assertIs(self.judged(("rule", part, value)), allowed)
        for value in ((("a", "a"),), (("a", "b"), ("a", "b")), (("a",),), ("a", "b"), (["a", "b"],),
                      ((("a",), "b"),), (("a", "b", "c"),), (("a", "B"),)):
            self.assertFalse(self.judged(("rule", "around", value)))

    def test_parts_that_are_none(self):
        for part in [*odd_values(), *extreme_values(), "Opens", "words", "room", "text", ["opens"]]:
            for value in ("enter", "own", True, None):
                self.assertFalse(self.judged(("rule", part, value)))

    def test_changes_of_tables(self):
        square = ((None, "x"), ("y", None))
        for value in (("table", "a", "near", ("p", "q")), ("table", "a", "near", NONE),
                      ("table", "a", "far", None), ("table", "a", "far", ("p", None)),
                      ("table", "b", "near", square), ("table", "b", "far", None)):
            self.assertTrue(self.judged(value))

    def test_tables_that_do_not_fit(self):
        square = ((None, "x"), ("y", None))
        for table in [*odd_values(), *extreme_values(), square, [None, None], (None,), (None,) * 3, ("M", None)]:
            if table not in ((None, None), ("off", "on")):
                self.assertFalse(self.judged(("table", "a", "near", table)))
            if table not in ((None, None), ("off", "on"), None):
                self.assertFalse(self.judged(("table", "a", "far", table)))
        for table in (NONE, (NONE,), (NONE, None), (NONE, [None, None]), [NONE, NONE], None):
            self.assertFalse(self.judged(("table", "b", "near", table)))
        for name in [*odd_values(), *extreme_values()]:
            if name != "a":
                self.assertFalse(self.judged(("table", name, "near", NONE)))
        for kind in [*odd_values(), *extreme_values(), "Near", ["near"], "stale", "first", "looks"]:
            if kind not in ("near", "far"):
                self.assertFalse(self.judged(("table", "a", kind, NONE)))

    def test_values_of_any_kind(self):
        good = ("rule", "wipes", True)
        table = ("table", "a", "near", NONE)
        for value in [*odd_values(), *extreme_values(), list(good), good[:2], good[1:], (*good, None), (good,),
                      list(table), table[:3], (*table, None), ("rule", "a", "near", NONE), ("table", "wipes", True),
                      ("Rule", "wipes", True), (None, "wipes", True), ("table", "near", "a", NONE),
                      ("rule",), ("table",), ("rule", "wipes"), (["rule"], "wipes", True), dict(enumerate(good)),
                      (True, True, True), ("field", "a", "near", NONE), ("rule", "wipes", True, True)]:
            self.assertFalse(self.judged(value))


class WithChangesTests(Asserts):
    def setUp(self):
        self.form = example_form()
        self.rule = Rule("enter", "leave", "own")
        self.changes = [
            ("rule", "around", (("b", "a"), ("a", "b"))), ("table", "b", "near", (NONE, ("x", "y"))),
            ("rule", "wipes", True), ("table", "b", "far", None), ("rule", "opens", "send"),
            ("table", "a", "near", (None, "q")),
        ]

    def test_each_order_of_the_changes(self):
        wanted = made(self.form, self.rule, self.changes)
        for changes in itertools.permutations(self.changes):
            found = with_changes(self.form, self.rule, changes)
            self.assertIs(type(found), tuple)
            self.assertEqual(found, wanted)
        self.assertEqual(with_changes(self.form, self.rule, list(self.changes)), wanted)
        self.assertEqual(wanted[1].around, (("a", "b"), ("b", "a")))

    def test_some_of_the_changes(self):
        for count in range(4):
            for changes in itertools.combinations(self.changes, count):
                self.assertEqual(with_changes(self.form, self.rule, changes), made(self.form, self.rule, changes))

    def test_pairs_in_any_order(self):
        pairs = (("c", "a"), ("a", "b"), ("b", "c"))
        for around in itertools.permutations(pairs):
            form, rule = with_changes(self.form, self.rule, [("rule", "around", around)])
            self.assertEqual(rule, Rule("enter", "leave", tuple(sorted(pairs))))

    def test_changes_that_change_nothing(self):
        same = [("rule", part, getattr(self.rule, part)) for part in PARTS]
        same += [("table", "a", "near", (None, "m")), ("table", "a", "far", None)]
        self.assertEqual(with_changes(self.form, self.rule, same), (self.form, self.rule))
        self.assertEqual(with_changes(self.form, self.rule, []), (self.form, self.rule))
        self.assertEqual(with_changes(self.form, self.rule, ()), (self.form, self.rule))

    def test_no_argument_is_modified(self):
        kept = list(self.changes)
        with_changes(self.form, self.rule, self.changes)
        self.assertEqual(self.changes, kept)
        self.assertEqual((self.form, self.rule), (example_form(), Rule("enter", "leave", "own")))

    def test_a_bad_item_at_each_place(self):
        for bad in [*odd_values()[::5], ("rule", "wipes", 1), ("rule", "taken", "first"), ["rule", "wipes", True],
                    ("table", "c", "near", NONE), ("table", "a", "near", (NONE, NONE)), *extreme_values()]:
            for at in range(len(self.changes) + 1):
                changes = self.changes[:at] + [bad] + self.changes[at:]
                self.assert_refused(InvalidChange, {"index": at}, with_changes, self.form, self.rule, changes)
                self.assert_refused(
                    InvalidChange, {"index": at}, with_changes, self.form, self.rule, tuple(changes) + (bad,))

    def test_an_aim_that_was_there_before(self):
        others = {
            ("rule", "around"): "looks", ("rule", "wipes"): True, ("rule", "opens"): "leave",
            ("table", "b", "near"): (NONE, NONE), ("table", "b", "far"): None, ("table", "a", "near"): NONE,
        }
        for at, change in enumerate(self.changes):
            for second in (change, (*aim(change), others[aim(change)])):
                for place in range(at + 1, len(self.changes) + 1):
                    changes = self.changes[:place] + [second] + self.changes[place:]
                    self.assert_refused(
                        InvalidChange, {"index": place}, with_changes, self.form, self.rule, changes)
        # The two tables of a field, and those of two fields, are different aims.
        with_changes(self.form, self.rule, [("table", name, kind, self.table(name, kind))
                                            for name in "ab" for kind in ("near", "far")])

    def table(self, name, kind):
        return (NONE, NONE) if (name, kind) == ("b", "near") else NONE

    def test_changes_are_judged_by_the_form_as_it_was(self):
        # No change makes room for another one: a table that does not fit is refused wherever it stands.
        bad = ("table", "a", "near", (NONE, NONE))
        for changes in ([("table", "b", "near", (NONE, NONE)), bad], [bad, ("table", "b", "far", None)]):
            self.assert_refused(InvalidChange, {"index": changes.index(bad)}, with_changes, self.form, self.rule, changes)


class HealsTests(Asserts):
    def test_the_example(self):
        candidates = [("rule", "wipes", True), ("rule", "checks", "enter")]
        self.assertEqual(
            heals(short_form(), Rule("enter", "leave", "own"), "stale", candidates),
            [(("rule", "wipes", True),), (("rule", "checks", "enter"),)],
        )

    def test_no_change_is_needed(self):
        rule = Rule("enter", "enter", "own")
        for candidates in ([], (), [("rule", "wipes", True)], [("rule", "checks", "leave")] * 1):
            self.assertEqual(heals(short_form(), rule, "stale", candidates), [()])

    def test_no_set_heals(self):
        rule = Rule("enter", "leave", "own")
        for candidates in ([], (), [("rule", "wipes", False)], [("rule", "sending", "go"), ("rule", "taken", "any")]):
            self.assertEqual(heals(short_form(), rule, "stale", candidates), [])

    def test_two_changes_are_needed(self):
        form = Form(("off", "on"), (("f", ("off", None, NONE, None)), ("g", ("off", "f", (("m", None), NONE), None))))
        candidates = [("rule", "around", "looks"), ("rule", "wipes", True), ("rule", "checks", "enter")]
        rule = Rule("enter", "leave", "own")
        wanted, most = plain_heals(form, rule, "unshown", candidates)
        self.assertEqual(heals(form, rule, "unshown", candidates), wanted)
        self.assertEqual(wanted, [(candidates[0], candidates[2])])
        # Each tuple has its changes in the order of the candidates.
        self.assertEqual(heals(form, rule, "unshown", candidates[::-1]), [(candidates[2], candidates[0])])

    def test_a_change_that_brings_another_fault(self):
        form = Form(("off", "on"), (("f", ("off", None, NONE, (None, "x"))),), room=1)
        rule = Rule("leave", "leave", "own", taken="same", sending="bar")
        candidates = [("rule", "checks", "enter"), ("rule", "taken", "any")]
        for kind in KINDS:
            for rule in (rule, rule.with_part("wipes", True), Rule("enter", "leave", "own", sending="go")):
                wanted, most = plain_heals(form, rule, kind, candidates)
                self.assertEqual(heals(form, rule, kind, candidates), wanted)
        # Under "wait" nothing is early any more, but a waiting form takes any answer and is sent.
        form = two_far_form().with_room(1)
        rule = Rule("send", "enter", "own", taken="any", sending="go")
        for kind in Book(form, rule).verdict().kinds():
            self.assertEqual(heals(form, rule, kind, candidates), plain_heals(form, rule, kind, candidates)[0])

    def test_a_set_with_one_aim_twice_heals_nothing(self):
        form = Form(("off", "on"), (("f", ("off", None, NONE, None)), ("g", ("off", "f", (("m", None), NONE), None))))
        rule = Rule("enter", "leave", "own")
        candidates = [("rule", "around", "looks"), ("rule", "around", (("f", "g"),)), ("rule", "checks", "enter"),
                      ("rule", "checks", "leave")]
        wanted = [(candidates[0], candidates[2]), (candidates[1], candidates[2])]
        self.assertEqual(heals(form, rule, "unshown", candidates), wanted)
        for pair in (candidates[:2], candidates[2:]):
            self.assertEqual(heals(form, rule, "unshown", pair), [])

    def test_tables_that_heal(self):
        candidates = [("table", "f", "near", NONE), ("table", "f", "near", ("m", "m")), ("table", "f", "far", NONE),
                      ("rule", "opens", "send")]
        for kind in ("stale", "unshown"):
            for rule in (Rule("enter", "leave", "own"), Rule("leave", "leave", "own", wipes=True)):
                wanted, most = plain_heals(short_form(), rule, kind, candidates)
                self.assertEqual(heals(short_form(), rule, kind, candidates), wanted)

    def test_two_orders_of_the_same_pairs_are_two_candidates(self):
        form = Form(("off", "on"), (("f", ("off", None, NONE, None)), ("g", ("off", "f", (("m", None), NONE), None))))
        one, other = ("rule", "around", (("f", "g"), ("g", "f"))), ("rule", "around", (("g", "f"), ("f", "g")))
        rule = Rule("enter", "enter", "own")
        self.assertEqual(heals(form, rule, "unshown", [one, other]), [(one,), (other,)])
        self.assertEqual(heals(form, rule, "unshown", [other, one]), [(other,), (one,)])

    def test_a_candidate_that_changes_nothing(self):
        rule = Rule("enter", "leave", "own")
        same = ("rule", "checks", "leave")
        wipes = ("rule", "wipes", True)
        self.assertEqual(heals(short_form(), rule, "stale", [same, wipes]), [(wipes,)])
        self.assertEqual(heals(short_form(), rule, "stale", [same]), [])

    def test_against_the_second_way(self):
        dice = random.Random(45)
        sizes = {}
        for form in small_forms()[:2] + small_forms()[3:8]:
            name = form.field_names()[0]
            flat = (None,) * len(form.words)
            near = (flat,) * len(form.words) if form.parts_of(name)[1] else flat
            every = [("rule", part, value) for part in PARTS for value in ALLOWED[part]]
            every += [("table", name, "far", None), ("table", name, "near", near), ("table", name, "far", flat)]
            # Together these heal most kinds.
            good = [("rule", "checks", "enter"), ("rule", "around", "looks"), ("rule", "taken", "same")]
            for turn in range(6 if len(form.fields) < 2 else 2):
                rule = dice.choice(many_rules())
                resets = dice.random() < 0.6
                candidates = dice.sample(every, dice.choice([1, 2, 3, 4]))
                if turn % 2:
                    candidates = good[:2 + turn % 3] + [item for item in candidates[:2] if item not in good]
                kinds = sorted(plain_book(form, rule, resets).kinds(), key=KINDS.index)
                kind = dice.choice(kinds) if kinds and turn else dice.choice(KINDS)
                wanted, most = plain_heals(form, rule, kind, candidates, resets)
                for passed in (candidates, tuple(candidates)):
                    found = heals(form, rule, kind, passed, resets=resets)
                    self.assertEqual(found, wanted)
                    self.assertTrue(all(type(changes) is tuple for changes in found))
                size = len(wanted[0]) if wanted else None
                sizes[size] = sizes.get(size, 0) + 1
                self.assert_limit(form, rule, kind, candidates, resets, most)
        self.assertEqual(set(sizes), {None, 0, 1, 2})

    def assert_limit(self, form, rule, kind, candidates, resets, most):
        """Just enough is the greatest of the books of the sets that are tried."""
        wanted = heals(form, rule, kind, candidates, resets=resets)
        self.assertEqual(heals(form, rule, kind, candidates, resets=resets, limit=most), wanted)
        if most > 1:
            self.assert_refused(
                LimitExceeded, {"limit": most - 1}, heals, form, rule, kind, candidates,
                resets=resets, limit=most - 1)

    def test_a_limit_that_only_a_set_that_is_tried_exceeds(self):
        # The far table makes the book larger, though the other candidate heals.
        rule = Rule("enter", "leave", "own")
        large, good = ("table", "f", "far", NONE), ("rule", "wipes", True)
        least = len(Book(short_form(), rule))
        most = len(Book(short_form().with_table("f", "far", NONE), rule))
        self.assertGreater(most, least)
        self.assertEqual(heals(short_form(), rule, "stale", [good], limit=least), [(good,)])
        self.assert_refused(
            LimitExceeded, {"limit": least}, heals, short_form(), rule, "stale", [good, large], limit=least)
        self.assert_refused(
            LimitExceeded, {"limit": most - 1}, heals, short_form(), rule, "stale", [large, good], limit=most - 1)
        self.assertEqual(heals(short_form(), rule, "stale", [large, good], limit=most), [(good,)])
        # No set is tried if there is no such fault.
        self.assertEqual(heals(short_form(), rule, "early", [large], limit=least), [()])

    def test_a_limit_that_only_two_changes_exceed(self):
        form = Form(("off", "on"), (("f", ("off", None, ("m", None), None)), ("g", ("off", None, NONE, None))), room=1)
        rule = Rule("enter", "leave", "own")
        candidates = [("table", "f", "far", NONE), ("table", "g", "far", NONE)]
        single = max(len(Book(*made(form, rule, [change]))) for change in candidates)
        both = len(Book(*made(form, rule, candidates)))
        self.assertGreater(both, single)
        self.assertEqual(heals(form, rule, "stale", candidates, limit=both), [])
        for limit in (single, both - 1):
            self.assert_refused(
                LimitExceeded, {"limit": limit}, heals, form, rule, "stale", candidates, limit=limit)
        # The two together are not tried if one alone heals, nor if both have the same aim.
        more = candidates + [("rule", "wipes", True)]
        self.assertEqual(heals(form, rule, "stale", more, limit=single), [(("rule", "wipes", True),)])
        twice = [candidates[0], ("table", "f", "far", ("m", None))]
        self.assertEqual(heals(form, rule, "stale", twice, limit=single), [])

    def test_six_candidates_and_seven(self):
        rule = Rule("enter", "leave", "own")
        candidates = [("rule", "sending", "go"), ("rule", "sending", "bar"), ("rule", "taken", "any"),
                      ("rule", "taken", "last"), ("rule", "wipes", False), ("rule", "opens", "enter"),
                      ("rule", "wipes", True)]
        self.assertEqual(heals(short_form(), rule, "stale", candidates[:6]), [])
        self.assertEqual(heals(short_form(), rule, "stale", candidates[1:]), [(candidates[6],)])
        for more in (candidates, candidates + [None], candidates[:6] + candidates[:1], tuple(candidates * 3)):
            self.assert_refused(InvalidChange, {"index": 6}, heals, short_form(), rule, "stale", more)

    def test_candidates_that_are_none_or_equal(self):
        rule = Rule("enter", "leave", "own")
        good = [("rule", "sending", "go"), ("rule", "taken", "any"), ("table", "f", "near", NONE)]
        for bad in [*odd_values()[::4], *extreme_values(), ("rule", "wipes", 1), ("table", "g", "near", NONE), good[0]]:
            for at in range(len(good) + 1):
                candidates = good[:at] + [bad] + good[at:]
                index = candidates.index(good[0], 1) if bad == good[0] else at
                for kind in ("stale", "early"):
                    self.assert_refused(
                        InvalidChange, {"index": index}, heals, short_form(), rule, kind, candidates, limit=1)
        self.assert_refused(InvalidChange, {"index": 2}, heals, short_form(), rule, "stale",
                            [good[0], good[1], good[1], None, good[0]])

    def test_the_order_of_the_errors(self):
        rule = Rule("enter", "leave", "own")
        for value in [*odd_values(), *extreme_values(), 0, 10001]:
            if type(value) is int and 1 <= value <= 10000:
                continue
            self.assert_refused(
                InvalidBound, {"value": value}, heals, short_form(), rule, "wrong", [None], limit=value)
        for kind in ("", "Stale", "wipes", "near"):
            self.assert_refused(InvalidKind, {"kind": kind}, heals, short_form(), rule, kind, [None], limit=1)
        self.assert_refused(InvalidChange, {"index": 0}, heals, short_form(), rule, "stale", [None], limit=1)
        self.assert_refused(LimitExceeded, {"limit": 1}, heals, short_form(), rule, "stale", [], limit=1)

    def test_the_list_is_a_new_one_and_no_argument_changes(self):
        candidates = [("rule", "wipes", True), ("rule", "checks", "enter")]
        kept = list(candidates)
        rule = Rule("enter", "leave", "own")
        self.assert_new_list(lambda: heals(short_form(), rule, "stale", candidates))
        self.assertEqual(candidates, kept)


class RulesFreeTests(Asserts):
    def test_against_the_second_way(self):
        dice = random.Random(33)
        lengths = set()
        for form in small_forms()[:7]:
            for many in (1, 3, 6) if len(form.words) < 3 else (2,):
                rules = [dice.choice(many_rules()) for _ in range(many)]
                resets = dice.random() < 0.5
                books = [plain_book(form, rule, resets) for rule in rules]
                for kinds in ([], ["stale"], ("unshown", "full"), ["elder", "elder"], list(KINDS)):
                    wanted = [at for at, book in enumerate(books) if not book.kinds() & set(kinds)]
                    self.assertEqual(rules_free(form, kinds, rules, resets=resets), wanted)
                    self.assertEqual(rules_free(form, kinds, tuple(rules), resets=resets), wanted)
                    lengths.add(len(wanted))
        self.assertGreaterEqual(lengths, {0, 1, 3, 6})

    def test_the_example(self):
        rules = [Rule("enter", "leave", "own"), Rule("enter", "leave", "own", wipes=True)]
        self.assertEqual(rules_free(short_form(), ["stale"], rules), [1])
        self.assertEqual(rules_free(short_form(), ["stale", "unshown"], rules), [])
        self.assertEqual(rules_free(short_form(), [], rules), [0, 1])
        self.assertEqual(rules_free(short_form(), (), tuple(rules)), [0, 1])

    def test_the_order_of_the_errors(self):
        rules = [Rule("enter", "leave", "own")]
        for value in [*odd_values(), *extreme_values(), 0, 10001]:
            if type(value) is int and 1 <= value <= 10000:
                continue
            self.assert_refused(
                InvalidBound, {"value": value}, rules_free, short_form(), ["wrong"], [], limit=value)
        for kinds in (["zz"], ("stale", "zz"), ["zz", "yy"], ["full", "zz", "stale"]):
            self.assert_refused(InvalidKind, {"kind": "zz"}, rules_free, short_form(), kinds, [], limit=1)
        for some in ([], (), rules * 7, tuple(rules * 8)):
            for kinds in ([], ["stale"]):
                self.assert_refused(InvalidRules, {}, rules_free, short_form(), kinds, some, limit=1)
        for kinds in ([], ["stale"], ("elder",)):
            self.assert_refused(LimitExceeded, {"limit": 4}, rules_free, short_form(), kinds, rules, limit=4)
            self.assertIn(rules_free(short_form(), kinds, rules * 6, limit=5), ([], [0, 1, 2, 3, 4, 5]))

    def test_one_of_several_rules_that_exceeds(self):
        small, large = Rule("send", "enter", "own"), Rule("enter", "leave", "own")
        least, most = len(Book(short_form(), small)), len(Book(short_form(), large))
        self.assertLess(least, most)
        for rules in ([small, large], [large, small], [small, small, large]):
            for kinds in ([], ["stale"]):
                self.assert_refused(
                    LimitExceeded, {"limit": least}, rules_free, short_form(), kinds, rules, limit=least)
                rules_free(short_form(), kinds, rules, limit=most)
        self.assertEqual(rules_free(short_form(), ["elder"], [small] * 2, limit=least), [0, 1])

    def test_the_list_is_a_new_one_and_no_argument_changes(self):
        rules = [Rule("enter", "leave", "own"), Rule("enter", "leave", "own", wipes=True)]
        kinds = ["stale", "elder"]
        self.assert_new_list(lambda: rules_free(short_form(), kinds, rules))
        self.assertEqual((len(rules), kinds), (2, ["stale", "elder"]))

    def test_stuck_and_full_are_kinds_too(self):
        form = two_far_form().with_room(1)
        rules = [Rule("send", "leave", "own"), Rule("leave", "leave", "own"), Rule("enter", "enter", "own")]
        self.assertEqual(rules_free(form, ["stuck"], rules), [1, 2])
        self.assertEqual(rules_free(form, ["full"], rules), [])
        self.assertEqual(rules_free(lone_form(), ["stuck", "early"], rules), [0, 1, 2])


if __name__ == "__main__":
    unittest.main()
