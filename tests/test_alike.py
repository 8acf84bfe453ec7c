"""Points 37 to 40: differences, pairings, what deeds tell apart, and rules alike."""

import itertools
import random
import unittest

from asserts import Asserts
from plainbook import cases, compared, plain_book, runs_up_to, side_by_side
from samples import (
    example_form, extreme_values, lone_form, many_rules, odd_values, small_forms,
    standing_of, two_far_form,
)

from wrongshown.alike import alike, classes, difference, is_pairing, pairing, parting, rules_alike
from wrongshown.books import Book
from wrongshown.errors import (
    InvalidBound, InvalidRules, LimitExceeded, NoStanding, NotComparable,
)
from wrongshown.forms import Form
from wrongshown.rules import Rule, all_rules

NONE = (None, None)


def short_form():
    return Form(("off", "on"), (("f", ("off", None, ("m", None), None)),))


def far_form(far=(None, "far"), room=1):
    return Form(("off", "on"), (("f", ("off", None, NONE, far)),), room=room)


def changed_forms(form, dice):
    """Forms that can be compared with a form: each one differs in one part, or in none."""
    yield form
    yield form.with_room(form.room % 3 + 1)
    at = dice.randrange(len(form.fields))
    name, (first, looks, near, far) = form.fields[at]
    flat = (None,) * len(form.words)
    wrong = ("zz",) + flat[1:]
    others = [other for other, parts in form.fields if other != name]
    changed = [
        (form.words[form.words.index(first) - 1], looks, near, far),
        (first, looks, near, flat if far is None else None),
        (first, looks, near, wrong),
        (first, None, flat, far) if looks is not None else (first, None, wrong, far),
    ]
    if others:
        changed.append((first, others[-1], (wrong,) + (flat,) * (len(form.words) - 1), far))
    for parts in changed:
        fields = form.fields[:at] + ((name, parts),) + form.fields[at + 1:]
        yield Form(form.words, fields, room=form.room)


def some_pairs():
    """Two plain books that can be compared, of forms and rules that differ in one part or in more."""
    dice = random.Random(38)
    rules = many_rules()
    for form in small_forms():
        many = len(form.fields)
        for other in changed_forms(form, dice):
            rule = dice.choice(rules)
            part, value = dice.choice([
                ("opens", "enter"), ("opens", "send"), ("checks", "leave"), ("around", "looks"),
                ("around", "own"), ("wipes", True), ("wipes", False), ("taken", "any"),
                ("taken", "last"), ("sending", "go"), ("sending", "wait"), ("sending", "bar"),
            ])
            for second in (rule, rule.with_part(part, value)):
                if many < 3 or second == rule:
                    resets = dice.random() < 0.7
                    yield plain_book(form, rule, resets), plain_book(other, second, resets)


    # Pairs that are alike, though their standings are not the same.
    form = far_form(("m", "m"))
    wrong = Form(("off", "on"), (("f", ("off", None, ("m", "m"), None)),))
    other = Form(("off", "on"), (("f", ("on", None, ("m", "m"), None)),))
    for opens, checks, wipes in itertools.product(("enter", "leave", "send"), ("enter", "leave"), (True, False)):
        rule = Rule(opens, checks, "own", wipes=wipes)
        yield plain_book(form, rule), plain_book(form, rule.with_part("sending", "bar"))
        yield plain_book(wrong, rule), plain_book(other, rule)


SOME_PAIRS = []


def races():
    """The pairs with what the second way says of them; they are worked out once."""
    if not SOME_PAIRS:
        for left, right in some_pairs():
            SOME_PAIRS.append((left, right, *compared(left, right)))
    return SOME_PAIRS


def pair_of(plain):
    return plain.form, plain.rule


class DifferenceTests(Asserts):
    def test_against_the_second_way(self):
        lengths = set()
        for left, right, kept, run in races():
            found = difference(pair_of(left), pair_of(right), resets=left.resets, limit=20000)
            self.assertEqual(found, run)
            lengths.add(None if run is None else len(run))
        self.assertGreaterEqual(lengths, {None, 1, 2, 3, 4})

    def test_all_runs_in_their_order(self):
        """No run is left out here, also none that leads to two standings for the second time."""
        dice = random.Random(39)
        lengths = set()
        for form in small_forms()[:2] + [far_form(), far_form(NONE, 2)]:
            for turn in range(12):
                first = (form, dice.choice(many_rules()))
                second = (dice.choice([form, form.with_room(1)]), dice.choice([first[1], dice.choice(many_rules())]))
                left, right = plain_book(*first), plain_book(*second)
                found = difference(first, second)
                wanted = self.first_difference(left, right, 4)
                if found is not None and len(found) <= 4:
                    self.assertEqual(found, wanted)
                    lengths.add(len(found))
                else:
                    self.assertIsNone(wanted)
                    lengths.add(None)
        self.assertGreaterEqual(lengths, {None, 1, 2})

    def first_difference(self, left, right, length):
        """The first of all runs of up to so many deeds whose last deed shows a difference."""
        ends = {(): (left.standings[0], right.standings[0])}
        for run in runs_up_to(left.moves, length):
            if run == ():
                continue
            first, second = ends[run[:-1]]
            refused = [left.is_refused(first, run[-1]), right.is_refused(second, run[-1])]
            ends[run] = (left.behind(first, run[-1]), right.behind(second, run[-1]))
            one, other = ends[run]
            if refused[0] != refused[1] or one[1:3] != other[1:3]:
                return run
            if left.sent(first, run[-1]) != right.sent(second, run[-1]):
                return run
        return None

    def test_alike_is_having_no_difference(self):
        told = set()
        for left, right, kept, run in races()[::2]:
            found = alike(pair_of(left), pair_of(right), resets=left.resets, limit=20000)
            self.assertIs(found, run is None)
            told.add(found)
        self.assertEqual(told, {True, False})

    def test_a_pair_is_alike_itself(self):
        for plain in cases()[::7]:
            self.assertIsNone(difference(pair_of(plain), pair_of(plain), resets=plain.resets))
            rows = pairing(pair_of(plain), pair_of(plain), resets=plain.resets)
            self.assertEqual(rows, [(standing, standing) for standing in plain.standings])

    def test_the_other_way_round_is_the_same_run(self):
        for left, right, kept, run in races()[::3]:
            self.assertEqual(difference(pair_of(right), pair_of(left), resets=left.resets, limit=20000), run)

    def test_the_starts_always_look_the_same(self):
        form = Form(("off", "on"), (("f", ("on", None, ("m", None), None)),))
        rule = Rule("leave", "leave", "own")
        # The first words differ, but that is seen only behind a deed.
        self.assertEqual(difference((form, rule), (short_form(), rule)), (("leave", "f"),))

    def test_a_difference_in_the_open_fields(self):
        first = (far_form(), Rule("enter", "leave", "own"))
        second = (far_form(), Rule("leave", "leave", "own"))
        self.assertEqual(difference(first, second), (("enter", "f", "on"),))

    def test_a_difference_in_the_sent_words_alone(self):
        # Both are sent at once and look the same, with other words.
        first = (Form(("off", "on"), (("f", ("off", None, NONE, None)),)), Rule("leave", "leave", "own"))
        second = (Form(("off", "on"), (("f", ("on", None, NONE, None)),)), Rule("leave", "leave", "own"))
        self.assertEqual(difference(first, second), (("send",),))
        # One of them is sent, and the other one is held, while something is asked.
        first = (far_form(), Rule("leave", "leave", "own", sending="go"))
        second = (far_form(), Rule("leave", "leave", "own", sending="bar"))
        self.assertEqual(difference(first, second), (("send",),))

    def test_a_deed_that_is_refused_in_one_of_the_two(self):
        rule = Rule("leave", "leave", "own")
        first, second = (two_far_form().with_room(1), rule), (two_far_form(), rule)
        self.assertEqual(difference(first, second), (("send",),))
        self.assertEqual(difference(second, first), (("send",),))

    def test_a_deed_that_is_refused_in_both_shows_no_difference(self):
        form = two_far_form().with_room(1)
        for first, second in itertools.product(("any", "same", "last"), repeat=2):
            left = (form, Rule("send", "leave", "own", taken=first))
            right = (form, Rule("send", "leave", "own", taken=second, sending="bar"))
            self.assertIsNone(difference(left, right))
            self.assertEqual(len(pairing(left, right)), 4)

    def test_the_deeds_without_resets(self):
        # The two differ only behind a reset: what was asked stays asked.
        left, right = (far_form((None, None)), far_form((None, "m")))
        rule = Rule("leave", "leave", "own", taken="any", sending="bar")
        with_resets = difference((left, rule), (right, rule))
        self.assertEqual(with_resets, difference((left, rule), (right, rule), resets=True))
        plain = [plain_book(form, rule, False) for form in (left, right)]
        self.assertEqual(difference((left, rule), (right, rule), resets=False), compared(*plain)[1])

    def test_fact_five(self):
        for form in small_forms()[:9]:
            for rule in all_rules()[len(form.fields)::36]:
                other = rule.with_part("wipes", not rule.wipes)
                if rule.checks == "enter":
                    self.assertTrue(alike((form, rule), (form, other)))

    def test_fact_six(self):
        for form in small_forms():
            if any(parts[3] is not None for name, parts in form.fields):
                continue
            for rule in all_rules()[::36]:
                for taken, sending in (("any", "go"), ("last", "bar"), ("same", "wait")):
                    other = rule.with_part("taken", taken).with_part("sending", sending)
                    self.assertTrue(alike((form, rule), (form, other)))


class LimitTests(Asserts):
    calls = [difference, alike, pairing]

    def test_limits_that_are_none(self):
        first = (short_form(), Rule("enter", "leave", "own"))
        # The limit is checked ahead of the forms.
        second = (example_form(), Rule("enter", "leave", "own"))
        for value in [*odd_values(), *extreme_values(), 0, -1, 20001, 10 ** 9]:
            if type(value) is int and 1 <= value <= 20000:
                continue
            for call in self.calls:
                self.assert_refused(InvalidBound, {"value": value}, call, first, second, limit=value)
                self.assert_refused(InvalidBound, {"value": value}, call, first, first, limit=value)
            self.assert_refused(InvalidBound, {"value": value}, rules_alike, short_form(), [], limit=value)

    def test_a_limit_that_is_just_enough(self):
        exceeded = 0
        for left, right, kept, run in races()[::2]:
            pairs = (pair_of(left), pair_of(right))
            # Tuples that are found on the way count, also if nothing is done from them any more.
            least = next(limit for limit in self.limits(left, right) if limit is not None)
            self.assertEqual(difference(*pairs, resets=left.resets, limit=least), run)
            self.assertIs(alike(*pairs, resets=left.resets, limit=least), run is None)
            if run is None:
                self.assertEqual(len(kept), least)
            if least > 1:
                exceeded += 1
                for call in self.calls:
                    self.assert_refused(LimitExceeded, {"limit": least - 1}, call, *pairs,
                                        resets=left.resets, limit=least - 1)
        self.assertGreater(exceeded, 30)

    def limits(self, left, right):
        """The least limit under which the second way has an answer, found by halving."""
        low, high = 1, 20000
        while low < high:
            middle = (low + high) // 2
            if compared(left, right, middle) == (None, None):
                low = middle + 1
            else:
                high = middle
        yield low

    def test_a_difference_that_is_found_ahead_of_the_limit(self):
        # The least run has one deed, and the first of all: no other tuple is found ahead of it.
        form = Form(("on", "off"), (("f", ("off", None, ("m", None), None)),))
        first, second = (form, Rule("enter", "enter", "own")), (form, Rule("leave", "leave", "own"))
        self.assertEqual(difference(first, second, limit=1), (("enter", "f", "on"),))
        self.assertIs(alike(first, second, limit=1), False)
        self.assertIsNone(pairing(first, second, limit=1))
        # Behind an enter deed that changes nothing it is the same.
        first, second = [(short_form(), rule) for _, rule in (first, second)]
        self.assertEqual(difference(first, second, limit=1), (("enter", "f", "on"),))

    def test_a_tuple_that_is_found_ahead_of_the_difference(self):
        left = (short_form(), Rule("enter", "leave", "own"))
        right = (short_form(), Rule("enter", "enter", "own"))
        run = (("enter", "f", "on"), ("enter", "f", "off"))
        self.assertEqual(difference(left, right), run)
        self.assert_refused(LimitExceeded, {"limit": 1}, difference, left, right, limit=1)
        # Ahead of the difference of two deeds stand all tuples of one deed.
        many = [limit for limit in range(1, 9) if not self.exceeds(left, right, limit)]
        self.assertEqual(many, list(range(many[0], 9)))
        self.assertGreater(many[0], 1)

    def exceeds(self, left, right, limit):
        try:
            difference(left, right, limit=limit)
        except LimitExceeded:
            return True
        return False

    def test_the_greatest_limit(self):
        self.assertIsNone(difference((short_form(), Rule("leave", "leave", "own")),
                                     (short_form(), Rule("leave", "leave", "looks")), limit=20000))


class ComparableTests(Asserts):
    def test_forms_of_other_words_or_fields(self):
        rule = Rule("enter", "enter", "own")
        form = short_form()
        table = ("m", None)
        for other, part in (
            (Form(("on", "off"), form.fields), "words"),
            (Form(("off", "yes"), (("f", ("off", None, table, None)),)), "words"),
            (lone_form(), "words"),
            (Form(("on", "off"), (("g", ("off", None, table, None)),)), "words"),
            (Form(("off", "on"), (("g", ("off", None, table, None)),)), "fields"),
            (example_form(), "fields"),
        ):
            for first, second in ((form, other), (other, form)):
                for call in (difference, alike, pairing):
                    self.assert_refused(
                        NotComparable, {"part": part}, call, (first, rule), (second, rule), limit=1)
                for value in ([], None, odd_values()):
                    self.assert_refused(
                        NotComparable, {"part": part}, is_pairing, (first, rule), (second, rule), value)

    def test_the_same_fields_in_another_order(self):
        rule = Rule("enter", "enter", "own")
        form = two_far_form()
        other = Form(form.words, form.fields[::-1])
        self.assert_refused(NotComparable, {"part": "fields"}, difference, (form, rule), (other, rule))

    def test_everything_else_may_differ(self):
        rule = Rule("leave", "leave", "own")
        form = example_form()
        other = Form(form.words, (
            ("a", ("on", "b", (NONE, NONE), (None, "p"))), ("b", ("on", None, NONE, None)),
        ), room=1)
        self.assertIsNotNone(difference((form, rule), (other, rule)))


class PairingTests(Asserts):
    def judged(self, left, right, value, **named):
        found = is_pairing(pair_of(left), pair_of(right), value, **named)
        self.assertIs(type(found), bool)
        return found

    def pairings(self, most):
        """The pairs of plain books that are alike, with their pairings of at most so many tuples."""
        return [
            (left, right, kept) for left, right, kept, run in races() if run is None and len(kept) < most
        ]

    def test_the_tuples_in_the_order_of_their_least_runs(self):
        self.assertGreater(len(self.pairings(2000)), 20)
        for left, right, kept, run in races():
            found = pairing(pair_of(left), pair_of(right), resets=left.resets, limit=20000)
            self.assertEqual(found, kept if run is None else None)
        left, right, kept = self.pairings(2000)[3]
        self.assert_new_list(lambda: pairing(pair_of(left), pair_of(right), resets=left.resets))

    def test_pairings_of_two_that_are_not_equal(self):
        form = short_form()
        first, second = (form, Rule("leave", "enter", "own")), (form.with_room(1), Rule("leave", "enter", "looks"))
        rows = pairing(first, second)
        self.assertTrue(is_pairing(first, second, rows))
        self.assertEqual(rows[0], (standing_of(form, "off"), standing_of(form, "off")))
        # A far table that says what the near table says ahead of it.
        third = (form.with_table("f", "far", ("m", None)), Rule("leave", "enter", "own"))
        self.assertEqual(difference(first, third), (("enter", "f", "on"), ("send",)))

    def test_pairing_returns_a_pairing(self):
        for left, right, kept in self.pairings(400):
            self.assertTrue(self.judged(left, right, kept, resets=left.resets))
            if left.resets:
                self.assertTrue(self.judged(left, right, kept))
                self.assertTrue(self.judged(left, right, kept, resets=False))

    def test_the_order_and_duplicates_do_not_matter(self):
        dice = random.Random(37)
        for left, right, kept in self.pairings(120):
            value = kept + dice.choices(kept, k=3)
            dice.shuffle(value)
            copy = list(value)
            self.assertTrue(self.judged(left, right, value, resets=left.resets))
            self.assertEqual(value, copy)

    def test_a_list_with_an_item_left_out(self):
        for left, right, kept in self.pairings(120):
            for at in {0, len(kept) - 1, len(kept) // 2}:
                value = kept[:at] + kept[at + 1:]
                self.assertFalse(self.judged(left, right, value, resets=left.resets))

    def test_standings_of_the_other_pair(self):
        some = 0
        for left, right, kept in self.pairings(120):
            turned = [(second, first) for first, second in kept]
            wanted = turned == kept
            if not wanted:
                some += 1
                self.assertFalse(self.judged(left, right, turned, resets=left.resets))
            self.assertTrue(self.judged(right, left, turned, resets=left.resets))
        self.assertGreater(some, 5)

    def test_pairs_that_are_not_alike_have_no_pairing(self):
        dice = random.Random(40)
        some = 0
        for left, right, kept, run in races():
            if run is None or len(left.form.fields) > 1 or len(left.standings) > 20:
                continue
            # Neither what was found ahead of the difference nor all tuples are one.
            every = list(itertools.product(left.standings, right.standings))
            for value in (kept, every, dice.sample(every, len(every) // 2) + every[:1]):
                self.assertFalse(self.judged(left, right, value, resets=left.resets))
                some += 1
        self.assertGreater(some, 15)

    def test_tuples_that_no_run_leads_to(self):
        form = short_form()
        left = right = plain_book(form, Rule("leave", "enter", "own"))
        kept = compared(left, right)[0]
        odd = standing_of(form, "on", errors={"f": "zzz"})
        self.assertFalse(self.judged(left, right, kept + [(odd, odd)]))
        more = side_by_side(left, right, kept + [(odd, odd)])
        self.assertTrue(self.judged(left, right, more))
        # Two standings that do not look the same, and two that do but not behind a deed.
        closed = standing_of(form, "on")
        self.assertFalse(self.judged(left, right, more + [(odd, closed)]))
        self.assertFalse(self.judged(left, right, kept + [(kept[0][0], closed)]))

    def test_a_tuple_that_looks_different_but_not_behind_any_deed(self):
        # With wipes and a check at once every deed but the answers takes the odd error away; an
        # answer to nothing does nothing. So the tuple itself has to be looked at.
        form = short_form()
        plain = plain_book(form, Rule("enter", "enter", "own"))
        kept = compared(plain, plain)[0]
        odd = standing_of(form, "off", errors={"f": "zzz"})
        self.assertFalse(self.judged(plain, plain, kept + [(odd, plain.standings[0])]))
        self.assertFalse(self.judged(plain, plain, [(plain.standings[0], odd)] + kept))

    def test_a_deed_that_is_refused_from_one_of_the_two(self):
        # All tuples to which deeds lead, where a deed that is refused from one of the two stays there.
        rule = Rule("leave", "leave", "own", sending="bar")
        left, right = plain_book(far_form(NONE, 1), rule), plain_book(far_form(NONE, 2), rule)
        rows = side_by_side(left, right, [(left.standings[0], right.standings[0])])
        self.assertFalse(self.judged(left, right, rows))
        self.assertFalse(self.judged(right, left, [(second, first) for first, second in rows]))

    def test_the_sent_words_have_to_be_the_same(self):
        first = (Form(("off", "on"), (("f", ("off", None, NONE, None)),)), Rule("leave", "leave", "own"))
        second = (Form(("off", "on"), (("f", ("on", None, NONE, None)),)), Rule("leave", "leave", "own"))
        every = list(itertools.product(Book(*first).standings(), Book(*second).standings()))
        same = [(one, other) for one, other in every if one[1:] == other[1:]]
        # All of these tuples look the same, and all deeds lead to such tuples.
        self.assertEqual(len(same), 8)
        self.assertIs(is_pairing(first, second, same), False)
        self.assertIs(is_pairing(first, first, [(one, one) for one in Book(*first).standings()]), True)

    def test_items_that_are_no_tuples_of_two_standings(self):
        left, right = (short_form(), Rule("leave", "enter", "own")), (short_form(), Rule("leave", "enter", "looks"))
        rows = pairing(left, right)
        one, other = rows[1]
        bad = (("on",), (0,), (None,), (None,), (), False)
        for item in [
            *odd_values(), *extreme_values(), [one, other], (one,), (one, other, other), (one, None), (None, one),
            (one, list(other)), ((one, other),), one, (one, bad), (bad, one), {one: other}, (one, [other]),
            (one, standing_of(lone_form(), "mid")), (standing_of(example_form(), "off off"), other),
        ]:
            for at in (0, 2, len(rows)):
                self.assertIs(is_pairing(left, right, rows[:at] + [item] + rows[at:]), False)

    def test_each_standing_is_one_of_its_own_pair(self):
        # Only the second form can wait, so only the second standing may.
        form = far_form((None, None))
        first, second = (form, Rule("leave", "leave", "own", sending="bar")), (form, Rule("leave", "leave", "own"))
        waits = standing_of(form, "off", "f", asked=[("f", "off", True)], waiting=True)
        start = standing_of(form, "off")
        self.assertIs(is_pairing(first, second, [(start, start), (waits, waits)]), False)
        rows = pairing(second, second)
        self.assertIn((waits, waits), rows)
        self.assertIs(is_pairing(first, second, rows), False)
        self.assertIs(is_pairing(second, first, rows), False)

    def test_values_that_are_no_lists(self):
        left = (short_form(), Rule("leave", "enter", "own"))
        rows = pairing(left, left)
        for value in [*odd_values(), *extreme_values(), tuple(rows), dict(rows), dict.fromkeys(rows), rows[0]]:
            self.assertIs(is_pairing(left, left, value), False)
        self.assertIs(is_pairing(left, left, rows), True)
        self.assertIs(is_pairing(left, left, []), False)


class PartingTests(Asserts):
    def test_against_the_second_way(self):
        lengths = {}
        for plain in cases():
            dice = random.Random(len(plain.standings))
            some = plain.standings if len(plain.standings) < 16 else dice.sample(plain.standings, 5)
            if len(plain.standings) > 200:
                continue
            book = Book(plain.form, plain.rule, resets=plain.resets)
            for first, second in itertools.product(some, repeat=2):
                wanted = plain.parting(first, second)
                self.assertEqual(parting(book, first, second), wanted)
                length = None if wanted is None else len(wanted)
                lengths[length] = lengths.get(length, 0) + (first != second)
        self.assertGreaterEqual(set(lengths), {None, 0, 1, 2, 3})
        self.assertGreater(lengths[None], 5)

    def test_standings_that_look_different(self):
        book = Book(short_form(), Rule("enter", "leave", "own"))
        self.assertEqual(parting(book, book.standings()[0], book.standings()[1]), ())
        self.assertIsNone(parting(book, book.standings()[2], book.standings()[2]))

    def test_standings_that_differ_after_several_deeds(self):
        found = set()
        for form in (far_form(), far_form(("x", "y")), far_form((None, "m"), 2)):
            for rule in many_rules()[::29]:
                plain = plain_book(form, rule)
                book = Book(form, rule)
                for first, second in itertools.combinations(plain.standings[:9], 2):
                    wanted = plain.parting(first, second)
                    self.assertEqual(parting(book, first, second), wanted)
                    self.assertEqual(parting(book, second, first), wanted)
                    found.add(None if wanted is None else len(wanted))
        self.assertGreaterEqual(found, {0, 1, 2, 3})

    def test_the_sent_words_tell_standings_apart(self):
        form = Form(("off", "on"), (("f", ("off", None, NONE, None)),))
        book = Book(form, Rule("send", "leave", "own"))
        first, second = standing_of(form, "off", "f"), standing_of(form, "on", "f")
        self.assertEqual(parting(book, first, second), (("send",),))

    def test_a_refused_deed_tells_standings_apart(self):
        form = two_far_form().with_room(1)
        book = Book(form, Rule("leave", "leave", "own", sending="bar"))
        first = standing_of(form, "off off", "c d", known={"c": ("off", None)})
        second = standing_of(form, "off off", "c d", known={"c": ("off", None), "d": ("off", None)})
        self.assertIn(parting(book, first, second), [(("send",),)])
        asked = standing_of(form, "off off", "c d", known={"c": ("off", None)}, asked=[("d", "off", True)])
        other = standing_of(form, "off off", "c d", asked=[("d", "off", True)])
        self.assertEqual(parting(book, asked, other), (("leave", "c"),))

    def test_values_that_are_no_standings_of_the_book(self):
        book = Book(short_form(), Rule("enter", "leave", "own"))
        good = book.standings()[3]
        for value in [*odd_values(), *extreme_values(), list(good), good[:5], standing_of(book.form, "on"),
                      (good[0], (1,), *good[2:]), standing_of(lone_form(), "on"), [good]]:
            if value in book.standings() and value == standing_of(book.form, "on"):
                continue
            self.assert_refused(NoStanding, {}, parting, book, value, good)
            self.assert_refused(NoStanding, {}, parting, book, good, value)
            self.assert_refused(NoStanding, {}, parting, book, value, value)


class ClassTests(Asserts):
    def plain_classes(self, plain):
        groups = []
        for at, standing in enumerate(plain.standings):
            for group in groups:
                if plain.parting(plain.standings[group[0]], standing) is None:
                    group.append(at)
                    break
            else:
                groups.append([at])
        return groups

    def test_against_the_second_way(self):
        joined = 0
        for plain in cases():
            if len(plain.standings) > 80:
                continue
            book = Book(plain.form, plain.rule, resets=plain.resets)
            found = classes(book)
            self.assertEqual(found, self.plain_classes(plain))
            joined += len(found) < len(book)
        self.assertGreater(joined, 5)

    def test_each_standing_stands_in_one_class(self):
        for plain in cases()[::5]:
            book = Book(plain.form, plain.rule, resets=plain.resets)
            found = classes(book)
            self.assertEqual(sorted(sum(found, [])), list(range(len(book))))
            self.assertEqual(found, sorted(found))
            self.assertEqual([sorted(group) for group in found], found)

    def test_standings_that_no_deeds_tell_apart(self):
        # What is known of a word is forgotten by nothing, but under "send" nothing is asked here.
        form = Form(("off", "on"), (("f", ("off", None, ("m", "m"), (None, "x"))),))
        book = Book(form, Rule("leave", "enter", "own"))
        # Both words are wrong in the same way, so the word that is held is never seen.
        self.assertEqual(len(book), 4)
        self.assertEqual(classes(book), [[0, 1], [2, 3]])

    def test_new_lists_each_time(self):
        book = Book(short_form(), Rule("enter", "leave", "own"))
        self.assert_new_list(lambda: classes(book))
        classes(book)[0].append("more")
        self.assertEqual(classes(book), [[0], [1], [2], [3], [4]])

    def test_a_large_book(self):
        book = Book(lone_form(), Rule("enter", "leave", "own", taken="any"))
        self.assertEqual(sum(len(group) for group in classes(book)), len(book))


class RulesAlikeTests(Asserts):
    def test_against_differences_of_two(self):
        dice = random.Random(6)
        sizes = set()
        for form in small_forms()[:9]:
            for many in (1, 2, 3, 6) if len(form.words) < 3 else (2,):
                base = dice.choice(many_rules())
                rules = [base] + [
                    base.with_part(*dice.choice([("wipes", True), ("wipes", False), ("taken", "any"),
                                                 ("sending", "bar"), ("around", "own"), ("around", "looks")]))
                    for _ in range(many - 1)
                ]
                dice.shuffle(rules)
                resets = dice.random() < 0.5
                groups = []
                for at, rule in enumerate(rules):
                    for group in groups:
                        if alike((form, rules[group[0]]), (form, rule), resets=resets):
                            group.append(at)
                            break
                    else:
                        groups.append([at])
                kept = list(rules)
                self.assertEqual(rules_alike(form, rules, resets=resets), groups)
                self.assertEqual(rules_alike(form, tuple(rules), resets=resets), groups)
                self.assertEqual([rule == other for rule, other in zip(rules, kept)], [True] * many)
                sizes.add((many, len(groups)))
        self.assertGreaterEqual(sizes, {(1, 1), (2, 1), (2, 2), (3, 2), (6, 1), (6, 2)})

    def test_equal_rules_are_alike(self):
        rules = [Rule("enter", "leave", "own"), Rule("enter", "enter", "own"), Rule("enter", "leave", "own"),
                 Rule("enter", "enter", "looks"), Rule("enter", "enter", "own", wipes=True)]
        self.assertEqual(rules_alike(short_form(), rules), [[0, 2], [1, 3, 4]])

    def test_none_and_seven_rules(self):
        rule = Rule("enter", "leave", "own")
        for rules in ([], (), [rule] * 7, (rule,) * 7, [rule] * 20):
            self.assert_refused(InvalidRules, {}, rules_alike, short_form(), rules)
            self.assert_refused(InvalidRules, {}, rules_alike, short_form(), rules, limit=1)
        self.assertEqual(rules_alike(short_form(), (rule,) * 6), [[0, 1, 2, 3, 4, 5]])
        self.assertEqual(rules_alike(short_form(), [rule]), [[0]])

    def test_limits(self):
        form = short_form()
        rules = [Rule("enter", "leave", "own"), Rule("enter", "enter", "own")]
        self.assertEqual(rules_alike(form, rules[:1], limit=1), [[0]])
        self.assertEqual(rules_alike(form, rules), [[0], [1]])
        self.assert_refused(LimitExceeded, {"limit": 1}, rules_alike, form, rules, limit=1)
        # Each two of the rules are compared, also those that follow from others.
        five = len(pairing((form, rules[0]), (form, rules[0])))
        self.assertEqual(five, 5)
        self.assertEqual(rules_alike(form, [rules[0]] * 3, limit=five), [[0, 1, 2]])
        self.assert_refused(LimitExceeded, {"limit": 4}, rules_alike, form, [rules[0]] * 2, limit=4)
        other = Rule("leave", "enter", "own")
        self.assertEqual(rules_alike(form, [rules[0], other], limit=1), [[0], [1]])
        self.assert_refused(
            LimitExceeded, {"limit": 1}, rules_alike, form, [rules[0], other, rules[1]], limit=1)
        self.assert_refused(
            LimitExceeded, {"limit": 1}, rules_alike, form, [other, rules[0], rules[0]], limit=1)

    def test_new_lists(self):
        rules = [Rule("enter", "leave", "own"), Rule("enter", "enter", "own")]
        self.assert_new_list(lambda: rules_alike(short_form(), rules))
        rules_alike(short_form(), rules)[0].append(7)
        self.assertEqual(rules_alike(short_form(), rules), [[0], [1]])


if __name__ == "__main__":
    unittest.main()
