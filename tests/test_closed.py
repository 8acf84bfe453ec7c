"""Point 36: closed lists, and what they show."""

import random
import unittest

from asserts import Asserts
from plainbook import cases
from samples import (
    any_standing, example_form, extreme_values, lone_form, odd_values, standing_of, two_far_form,
)

from wrongshown.books import Book, is_closed, shows_free
from wrongshown.doing import step
from wrongshown.errors import InvalidKind
from wrongshown.forms import Form
from wrongshown.judge import KINDS
from wrongshown.rules import Rule
from wrongshown.standings import deeds


def lone():
    form = Form(("off", "on"), (("f", ("off", None, ("m", None), None)),))
    return form, Rule("enter", "leave", "own")


class ClosedTests(Asserts):
    def judged(self, form, rule, value, **named):
        """What is_closed says, and that a list that is not closed shows nothing."""
        found = is_closed(form, rule, value, **named)
        self.assertIs(type(found), bool)
        if not found:
            for kind in ("elder", "stuck"):
                self.assertIs(shows_free(form, rule, value, kind, **named), False)
        return found

    def test_the_standings_of_books(self):
        for plain in cases()[::2]:
            self.assertTrue(self.judged(plain.form, plain.rule, list(plain.standings), resets=plain.resets))

    def test_the_order_and_duplicates_do_not_matter(self):
        dice = random.Random(36)
        for plain in cases()[::6]:
            value = plain.standings + dice.choices(plain.standings, k=5)
            dice.shuffle(value)
            kept = list(value)
            self.assertTrue(self.judged(plain.form, plain.rule, value, resets=plain.resets))
            self.assertEqual(value, kept)

    def test_a_list_with_an_item_left_out(self):
        """Each standing of a book is the start or stands behind another one, so none may be missing."""
        dice = random.Random(37)
        for plain in cases()[::3]:
            many = len(plain.standings)
            for at in {0, many - 1, dice.randrange(many)} if many < 150 else {many - 1}:
                value = plain.standings[:at] + plain.standings[at + 1:]
                self.assertFalse(self.judged(plain.form, plain.rule, value, resets=plain.resets))

    def test_every_item_of_a_small_book_is_needed(self):
        form, rule = lone()
        standings = Book(form, rule).standings()
        for at in range(5):
            self.assertFalse(self.judged(form, rule, standings[:at] + standings[at + 1:]))
            self.assertTrue(self.judged(form, rule, standings[at:] + standings[:at]))
            self.assertTrue(self.judged(form, rule, standings + standings[at:at + 1]))

    def test_the_start_has_to_be_there(self):
        # Without resets nothing leads back to the start, so the others are closed but for it.
        form, rule = lone()
        standings = Book(form, rule, resets=False).standings()
        self.assertTrue(self.judged(form, rule, standings, resets=False))
        self.assertFalse(self.judged(form, rule, standings[1:], resets=False))
        self.assertFalse(self.judged(form, rule, [], resets=False))
        self.assertFalse(self.judged(form, rule, []))

    def test_resets_lead_away(self):
        form = Form(("off", "on"), (("f", ("off", None, (None, None), (None, None))),), room=1)
        rule = Rule("enter", "leave", "own")
        standings = Book(form, rule, resets=False).standings()
        self.assertTrue(self.judged(form, rule, standings, resets=False))
        self.assertFalse(self.judged(form, rule, standings, resets=True))
        self.assertFalse(self.judged(form, rule, standings))
        self.assertTrue(self.judged(form, rule, Book(form, rule).standings(), resets=False))

    def test_standings_that_no_run_leads_to(self):
        form, rule = lone()
        standings = Book(form, rule).standings()
        odd = standing_of(form, "on", errors={"f": "zzz"})
        self.assertNotIn(odd, standings)
        # Deeds lead from it to standings that are not in the list.
        self.assertFalse(self.judged(form, rule, standings + [odd]))
        more = standings + [odd]
        # All that deeds lead to from it closes the list again.
        for standing in more:
            for deed in deeds(form):
                after = step(form, rule, standing, deed).after
                if after not in more:
                    more.append(after)
        self.assertGreater(len(more), 6)
        self.assertTrue(self.judged(form, rule, more))
        self.assertTrue(self.judged(form, rule, more[::-1]))

    def test_deeds_that_are_refused_lead_nowhere(self):
        form = two_far_form().with_room(1)
        rule = Rule("send", "leave", "own")
        standings = Book(form, rule).standings()
        self.assertEqual(len(standings), 4)
        self.assertTrue(self.judged(form, rule, standings))
        self.assertFalse(self.judged(form.with_room(2), rule, standings))

    def test_items_that_are_no_standings(self):
        form, rule = lone()
        standings = Book(form, rule).standings()
        items = [*odd_values(), *extreme_values(), list(standings[1]), standings[1][:5], [standings[1]],
                 (("off",), (0,), (None,), (None,), (), False), (("off",), (False,), (None,), (None,), (), 0),
                 (("off",), (False,), (None,), (None,), [], False)]
        for item in items:
            for at in (0, 3, 5):
                self.assertFalse(self.judged(form, rule, standings[:at] + [item] + standings[at:]))
                self.assertFalse(self.judged(form, rule, standings[:at] + [item] + standings[at + 1:]))

    def test_standings_of_another_form_or_rule(self):
        form, rule = lone()
        others = Book(example_form().with_room(1), rule).standings()
        self.assertFalse(self.judged(form, rule, others))
        self.assertFalse(self.judged(form, rule, Book(form, rule).standings() + others[:1]))
        # A form that waits is a standing only under a rule that lets it wait.
        form = lone_form().with_room(1)
        waiting = Book(form, Rule("leave", "leave", "own", sending="wait"))
        self.assertTrue(self.judged(form, waiting.rule, waiting.standings()))
        self.assertFalse(self.judged(form, waiting.rule.with_part("sending", "go"), waiting.standings()))

    def test_values_that_are_no_lists(self):
        form, rule = lone()
        standings = Book(form, rule).standings()
        for value in [*odd_values(), *extreme_values(), tuple(standings), dict.fromkeys(standings),
                      dict(enumerate(standings)), standings[0], str(standings), [standings], (standings,)]:
            self.assertFalse(self.judged(form, rule, value))

    def test_standings_of_any_kind_are_closed_only_with_what_follows(self):
        dice = random.Random(38)
        for plain in cases()[::5]:
            for _ in range(3 if len(plain.standings) < 150 else 0):
                odd = any_standing(plain.form, plain.rule, dice)
                value = plain.standings + [odd]
                wanted = all(plain.behind(odd, deed) in value for deed in plain.moves)
                self.assertIs(self.judged(plain.form, plain.rule, value, resets=plain.resets), wanted)


class ShowsFreeTests(Asserts):
    def assert_shows(self, form, rule, value, kinds, **named):
        """The closed list shows that the form is free of all kinds but these."""
        kept = list(value)
        for kind in KINDS:
            found = shows_free(form, rule, value, kind, **named)
            self.assertIs(found, kind not in kinds, kind)
        self.assertEqual(value, kept)

    def test_the_standings_of_a_book_show_what_it_is_free_of(self):
        seen = set()
        dice = random.Random(39)
        # Fewer cases, but each kind of fault is among them.
        for at, plain in enumerate(cases()):
            if at % 4 and not plain.stuck() and not plain.kinds() & {"early"}:
                continue
            value = list(plain.standings)
            dice.shuffle(value)
            if len(value) < 250:
                self.assert_shows(plain.form, plain.rule, value, plain.kinds(), resets=plain.resets)
                seen |= plain.kinds()
        self.assertEqual(seen, set(KINDS))

    def test_more_standings_may_have_more_faults(self):
        form, rule = lone()
        rule = rule.with_part("checks", "enter")
        standings = Book(form, rule).standings()
        self.assert_shows(form, rule, standings, [])
        # An open field that shows a wrong error, and one that shows none: no run leads there.
        odd = [standing_of(form, "on", "f", errors={"f": "zzz"}), standing_of(form, "off", "f")]
        self.assertEqual([item in standings for item in odd], [False, False])
        self.assertTrue(is_closed(form, rule, standings + odd))
        self.assert_shows(form, rule, standings + odd, ["unshown", "stale"])
        self.assert_shows(form, rule, odd[:1] + standings, ["stale"])
        self.assert_shows(form, rule, standings + odd[1:], ["unshown"])

    def test_full_is_a_kind_of_deeds_that_are_refused(self):
        form = two_far_form().with_room(1)
        rule = Rule("send", "leave", "own")
        standings = Book(form, rule).standings()
        self.assert_shows(form, rule, standings, ["stuck", "full"])
        self.assert_shows(form, rule, standings[::-1] + standings, ["stuck", "full"], resets=False)

    def test_lists_that_are_not_closed_show_nothing(self):
        form, rule = lone()
        standings = Book(form, rule).standings()
        for value in [standings[:4], standings[1:], [], tuple(standings), None, *odd_values()]:
            for kind in KINDS:
                self.assertIs(shows_free(form, rule, value, kind), False)

    def test_words_that_are_no_kinds(self):
        form, rule = lone()
        standings = Book(form, rule).standings()
        for kind in ("", "Stale", "stuck ", "f", "rule", "x" * 40):
            for value in (standings, standings[:4], None, [None]):
                self.assert_refused(InvalidKind, {"kind": kind}, shows_free, form, rule, value, kind)
                self.assert_refused(
                    InvalidKind, {"kind": kind}, shows_free, form, rule, value, kind, resets=False)


if __name__ == "__main__":
    unittest.main()
