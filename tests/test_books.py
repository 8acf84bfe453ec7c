"""Points 21 and 30 to 34: runs, books, what is stuck, and the faults of books."""

import functools
import random
import unittest

from asserts import Asserts
from plainbook import cases, plain_book, runs_up_to
from samples import (
    example_form, extreme_values, lone_form, many_forms, many_rules, odd_values, odd_values_but,
    small_forms, standing_of, two_far_form,
)

from wrongshown.books import Book
from wrongshown.doing import begin, step
from wrongshown.errors import (
    InvalidBound, InvalidDeed, InvalidKind, LimitExceeded, NoFault, NoStanding, TooManyAsked,
)
from wrongshown.forms import Form
from wrongshown.judge import KINDS, faults
from wrongshown.rules import Rule, all_rules
from wrongshown.standings import deeds
from wrongshown.verdicts import Verdict


def new_book(plain, limit=2000):
    return Book(plain.form, plain.rule, resets=plain.resets, limit=limit)


@functools.lru_cache(maxsize=None)
def book_of(plain):
    """The book of a plain one; a book never changes, so several tests may ask the same one."""
    return new_book(plain)


def lone_book(**named):
    """The book of the examples of the document: five standings, two faults."""
    form = Form(("off", "on"), (("f", ("off", None, ("m", None), None)),))
    return Book(form, Rule("enter", "leave", "own"), **named)


def stuck_book(**named):
    """A book in which every send is refused, and nothing is ever asked."""
    return Book(two_far_form().with_room(1), Rule("send", "leave", "own"), **named)


def ends_of_runs(form, rule, resets, length):
    """For each run in order: the run, the standing behind it, and the faults of its last deed."""
    ends = {(): begin(form, rule).after}
    for run in runs_up_to(deeds(form, resets=resets), length):
        if run == ():
            yield run, ends[run], []
            continue
        before = ends[run[:-1]]
        try:
            made = step(form, rule, before, run[-1])
            ends[run] = made.after
            yield run, made.after, faults(form, rule, made)
        except TooManyAsked as refusal:
            ends[run] = before
            yield run, before, [("full", refusal.field)]


class SecondWayTests(Asserts):
    def test_standings_and_their_least_runs(self):
        for plain in cases():
            book = book_of(plain)
            self.assertEqual(book.standings(), plain.standings)
            self.assertEqual(len(book), len(plain.standings))
            for standing, run in plain.runs.items():
                self.assertEqual(book.least_run(standing), run)
                self.assertIs(standing in book, True)

    def test_faults_and_their_least_runs(self):
        seen = set()
        for plain in cases():
            book = book_of(plain)
            wanted = plain.faults()
            self.assertEqual(book.faults(), list(wanted))
            for (kind, field), run in wanted.items():
                self.assertEqual(book.least_fault(kind, field), run)
                seen.add(kind)
            self.assertEqual(book.verdict(), Verdict(list(wanted)))
            for kind in KINDS:
                self.assertIs(book.is_free(kind), kind not in {found for found, field in wanted})
                for field in (*plain.form.field_names(), "", "zz"):
                    if (kind, field) not in wanted:
                        self.assert_refused(NoFault, {"kind": kind, "field": field},
                                            book.least_fault, kind, field)
        self.assertEqual(seen, set(KINDS))

    def test_stuck_standings(self):
        some = 0
        for plain in cases():
            found = book_of(plain).stuck()
            self.assertEqual(found, plain.stuck())
            some += found != []
        self.assertGreater(some, 1)

    def test_what_each_deed_leads_to(self):
        refused = 0
        for plain in cases():
            book = book_of(plain)
            self.assertEqual(book.moves(), plain.moves)
            for standing in plain.standings[::3]:
                for deed in plain.moves:
                    if plain.is_refused(standing, deed):
                        self.assertIsNone(book.follow(standing, deed))
                        refused += 1
                    else:
                        self.assertEqual(book.follow(standing, deed), plain.behind(standing, deed))
        self.assertGreater(refused, 100)

    def test_all_runs_in_their_order(self):
        """No run is left out here: also those that go through a standing twice, or are refused."""
        dice = random.Random(30)
        forms = [form for form in small_forms() if len(form.fields) * len(form.words) < 5]
        for form in forms:
            for turn in range(3):
                rule = dice.choice(many_rules())
                book = Book(form, rule, resets=turn != 1)
                length = 4 if len(book.moves()) < 9 else 3
                runs = {}
                found = {}
                for run, standing, wrong in ends_of_runs(form, rule, turn != 1, length):
                    runs.setdefault(standing, run)
                    for pair in wrong:
                        found.setdefault(pair, run)
                self.assertEqual(book.standings()[:len(runs)], list(runs))
                for standing, run in runs.items():
                    self.assertEqual(book.least_run(standing), run)
                for pair in book.faults():
                    run = book.least_fault(*pair)
                    if pair in found:
                        self.assertEqual(run, found[pair])
                    elif pair != ("stuck", ""):
                        self.assertGreater(len(run), length)
                self.assertLessEqual(set(found), set(book.faults()))

    def test_deeds_between_standings(self):
        nowhere = 0
        for plain in cases():
            if len(plain.standings) > 100:
                continue
            book = book_of(plain)
            dice = random.Random(len(plain.standings))
            # All pairs of a small book, and some pairs of a larger one.
            some = plain.standings if len(plain.standings) < 18 else dice.sample(plain.standings, 6)
            for first in some:
                for second in some:
                    wanted = plain.between(first, second)
                    self.assertEqual(book.deeds_between(first, second), wanted)
                    nowhere += wanted is None
        self.assertGreater(nowhere, 50)


class RunTests(Asserts):
    def test_the_first_run_is_that_without_deeds(self):
        for form in many_forms()[2:6]:
            rule = Rule("enter", "enter", "own")
            book = Book(form, rule, limit=10000)
            self.assertEqual(book.standings()[0], begin(form, rule).after)
            self.assertEqual(book.least_run(begin(form, rule).after), ())

    def test_least_runs_stand_in_the_order_of_runs(self):
        for plain in cases():
            book = book_of(plain)
            places = {deed: at for at, deed in enumerate(book.moves())}
            runs = [book.least_run(standing) for standing in book.standings()]
            keys = [(len(run), [places[deed] for deed in run]) for run in runs]
            self.assertEqual(keys, sorted(keys))
            self.assertEqual(len(set(runs)), len(runs))

    def test_a_least_run_leads_to_its_standing(self):
        for plain in cases()[::4]:
            book = book_of(plain)
            for standing in book.standings():
                now = book.standings()[0]
                for deed in book.least_run(standing):
                    now = book.follow(now, deed)
                self.assertEqual(now, standing)

    def test_a_run_that_ends_with_a_refused_deed(self):
        book = stuck_book()
        self.assertEqual(book.least_fault("full", "d"), (("send",),))
        self.assertEqual(book.least_fault("stuck", ""), ())


class BookTests(Asserts):
    def test_the_attributes(self):
        form = example_form()
        rule = Rule("enter", "enter", "looks", sending="bar")
        book = Book(form, rule, resets=False, limit=999)
        self.assertIs(book.form, form)
        self.assertIs(book.rule, rule)
        self.assertIs(book.resets, False)
        self.assertEqual(book.limit, 999)
        book = Book(lone_form(), rule)
        self.assertIs(book.resets, True)
        self.assertEqual(book.limit, 2000)

    def test_the_example(self):
        book = lone_book()
        self.assertEqual(len(book), 5)
        self.assertEqual(book.faults(), [("unshown", "f"), ("stale", "f")])
        self.assertEqual(book.least_fault("unshown", "f"), (("enter", "f", "on"), ("enter", "f", "off")))
        self.assertEqual(book.stuck(), [])

    def test_with_and_without_resets(self):
        book = lone_book(resets=False)
        self.assertNotIn(("reset",), book.moves())
        self.assertEqual(book.moves(), deeds(book.form, resets=False))
        self.assertIn(("reset",), lone_book().moves())
        self.assertIsNone(book.deeds_between(book.standings()[1], book.standings()[0]))
        other = lone_book()
        self.assertEqual(other.deeds_between(other.standings()[1], other.standings()[0]), (("reset",),))
        self.assertLessEqual(set(book.standings()), set(other.standings()))

    def test_standings_that_only_a_reset_leads_to(self):
        form = Form(("off", "on"), (("f", ("off", None, (None, None), (None, None))),), room=1)
        rule = Rule("enter", "leave", "own")
        target = standing_of(form, "off", asked=[("f", "on", True)])
        self.assertIn(target, Book(form, rule))
        self.assertNotIn(target, Book(form, rule, resets=False))

    def test_what_is_returned_are_new_lists(self):
        book = stuck_book()
        for call in (book.moves, book.standings, book.faults, book.stuck):
            self.assert_new_list(call)
        self.assertEqual(book.verdict().pairs(), book.faults())

    def test_a_book_never_changes(self):
        for plain in cases()[::19]:
            book = new_book(plain)
            shown = (book.standings(), book.faults(), book.stuck(), book.moves(), len(book))
            for standing in odd_values():
                self.assertRaises(NoStanding, book.least_run, standing)
                self.assertRaises(NoStanding, book.deeds_between, book.standings()[-1], standing)
            for first in book.standings()[:4]:
                book.deeds_between(first, book.standings()[-1])
                for deed in book.moves():
                    book.follow(first, deed)
            book.verdict().pairs().clear()
            self.assertEqual((book.standings(), book.faults(), book.stuck(), book.moves(), len(book)), shown)

    def test_two_books_side_by_side(self):
        first = lone_book()
        second = stuck_book()
        self.assertEqual(first.faults(), [("unshown", "f"), ("stale", "f")])
        self.assertNotIn(second.standings()[0], first)
        self.assertEqual(second.faults()[-1], ("full", "d"))


class BoundTests(Asserts):
    def test_limits_that_are_none(self):
        form, rule = example_form(), Rule("enter", "enter", "own")
        for value in [*odd_values_but(1, 2, 3, 4), *extreme_values(), 10001, 10002, -2000, 0, False, True]:
            if isinstance(value, int) and not isinstance(value, bool) and 1 <= value <= 10000:
                continue
            self.assert_refused(InvalidBound, {"value": value}, Book, form, rule, limit=value)

    def test_the_least_and_the_greatest_limit(self):
        self.assertEqual(len(lone_book(limit=10000)), 5)
        form = Form(("off", "on"), (("f", ("off", None, (None, None), None)),))
        self.assert_refused(LimitExceeded, {"limit": 1}, Book, form, Rule("leave", "leave", "own"), limit=1)

    def test_a_book_of_exactly_limit_standings(self):
        for plain in cases()[::5]:
            many = len(plain.standings)
            self.assertEqual(len(new_book(plain, many)), many)
            for limit in {many - 1, many // 2, 1} - {0, many}:
                self.assert_refused(LimitExceeded, {"limit": limit}, new_book, plain, limit)

    def test_a_large_book(self):
        form = many_forms()[7]
        rule = Rule("leave", "leave", "looks", taken="any")
        self.assert_refused(LimitExceeded, {"limit": 2000}, Book, form, rule)
        self.assert_refused(LimitExceeded, {"limit": 10000}, Book, form, rule, limit=10000)


class ValueTests(Asserts):
    """Values that are in no book, whatever they are."""

    def values(self, book):
        standing = book.standings()[-1]
        words, opened, errors, known, asked, waiting = standing
        yield from odd_values()
        yield from extreme_values()
        yield list(standing)
        yield standing[:5]
        yield (*standing, None)
        yield (standing,)
        yield (words, tuple(int(flag) for flag in opened), errors, known, asked, waiting)
        yield (words, opened, errors, known, asked, int(waiting))
        yield (list(words), opened, errors, known, asked, waiting)
        yield (words, opened, list(errors), known, asked, waiting)
        yield (words, opened, errors, known, list(asked), waiting)
        yield (words, opened, errors, [*known], asked, waiting)
        yield (words, opened, ("zzz",) * len(words), known, asked, waiting)
        yield (words, opened, errors, known, ((["b"], "on", True),), waiting)
        yield (words, opened, errors, known, (("b", "on", 1),), waiting)
        yield ((["off"],) * len(words), opened, errors, known, asked, waiting)
        yield (words, opened, errors, known, asked, not waiting)

    def test_values_that_are_in_no_book(self):
        for plain in cases()[::11]:
            book = book_of(plain)
            first = book.standings()[0]
            for value in self.values(book):
                self.assertIs(value in book, False)
                self.assert_refused(NoStanding, {}, book.least_run, value)
                self.assert_refused(NoStanding, {}, book.follow, value, ("send",))
                self.assert_refused(NoStanding, {}, book.follow, value, value)
                self.assert_refused(NoStanding, {}, book.deeds_between, value, first)
                self.assert_refused(NoStanding, {}, book.deeds_between, first, value)
                self.assert_refused(NoStanding, {}, book.deeds_between, value, value)

    def test_standings_that_no_run_leads_to(self):
        book = lone_book()
        closed = standing_of(book.form, "on", errors={"f": "m"})
        self.assertNotIn(closed, book)
        self.assert_refused(NoStanding, {}, book.least_run, closed)

    def test_deeds_that_are_none_of_the_book(self):
        book = Book(example_form().with_room(1), Rule("enter", "enter", "own"), resets=False)
        standing = book.standings()[1]
        for value in [
            *odd_values(), *extreme_values(), ("answer", True), ("answer", False), ("answer", 3),
            ("answer", -1), ("answer",), ("answer", "0"), ("reset",), ("send", None), "send", ["send"],
            ("enter", "a"), ("enter", "c", "on"), ("enter", "a", "mid"), ("enter", "a", "on", "on"),
            ("leave",), ("leave", "on"), ("leave", ["a"]), ["leave", "a"], ("enter", ["a"], "on"),
            ("enter", "a", {}), ("Send",),
        ]:
            self.assert_refused(InvalidDeed, {"deed": value}, book.follow, standing, value)
        for deed in book.moves():
            book.follow(standing, deed)

    def test_the_reset_is_a_deed_where_it_is_one(self):
        book = lone_book()
        self.assertEqual(book.follow(book.standings()[2], ("reset",)), book.standings()[0])
        for value in (("answer", True), ("reset", None)):
            self.assert_refused(InvalidDeed, {"deed": value}, book.follow, book.standings()[2], value)

    def test_kinds_and_fields_of_faults(self):
        book = lone_book()
        for kind, field in (("stale", ""), ("stale", "g"), ("", "f"), ("Stale", "f"), ("full", "f"),
                            ("stuck", ""), ("early", ""), ("unshown", "unshown"), ("f", "stale")):
            self.assert_refused(NoFault, {"kind": kind, "field": field}, book.least_fault, kind, field)
        for kind in ("", "Stale", "stale ", "f", "near", "x" * 50):
            self.assert_refused(InvalidKind, {"kind": kind}, book.is_free, kind)

    def test_equal_standings(self):
        for plain in cases()[::13]:
            book = book_of(plain)
            for standing in book.standings()[:10]:
                self.assertEqual(book.deeds_between(standing, standing), ())


class StuckTests(Asserts):
    def test_the_form_of_the_document(self):
        book = stuck_book()
        self.assertEqual(book.stuck()[0], book.standings()[0])
        self.assertEqual(book.faults(), [("stuck", ""), ("full", "d")])
        self.assertFalse(book.is_free("stuck"))

    def test_a_book_that_is_not_stuck_though_sends_are_refused(self):
        # Leaving opens a field, so each field can be asked about by itself.
        book = Book(two_far_form().with_room(1), Rule("leave", "leave", "own"))
        self.assertIn(("full", "d"), book.faults())
        self.assertEqual(book.stuck(), [])
        self.assertTrue(book.is_free("stuck"))
        self.assert_refused(NoFault, {"kind": "stuck", "field": ""}, book.least_fault, "stuck", "")

    def test_a_stuck_standing_behind_some_deeds(self):
        form = Form(("off", "on"), (
            ("c", ("on", None, (None, "m"), (None, None))), ("d", ("off", None, (None, None), (None, None))),
        ), room=1)
        book = Book(form, Rule("send", "leave", "own"))
        # The start is wrong, so it is not stuck; the right word of c makes it so.
        self.assertEqual(book.least_fault("stuck", ""), (("enter", "c", "off"),))
        self.assertEqual(book.stuck()[0], book.standings()[1])
        self.assertGreater(len(book.stuck()), 1)

    def test_what_a_sending_needs(self):
        # Word is wrong near: no standing is right, so none is stuck though nothing is ever sent.
        form = Form(("off", "on"), (("f", ("off", None, ("m", "n"), None)),))
        book = Book(form, Rule("enter", "enter", "own"))
        self.assertEqual(book.stuck(), [])
        # A far error makes a standing not right either.
        form = Form(("off", "on"), (("f", ("off", None, (None, None), ("m", "n"))),), room=1)
        self.assertTrue(Book(form, Rule("enter", "enter", "own")).is_free("stuck"))

    def test_room_for_all_fields_with_far_tables(self):
        for plain in cases():
            far = [parts for name, parts in plain.form.fields if parts[3] is not None]
            if plain.form.room >= len(far):
                self.assertEqual(book_of(plain).stuck(), [])

    def test_stuck_with_and_without_resets(self):
        for resets in (True, False):
            book = stuck_book(resets=resets)
            self.assertEqual(book.stuck(), plain_book(book.form, book.rule, resets).stuck())


class FactTests(Asserts):
    """The six facts of point 21, over whole books."""

    def test_facts_one_to_four(self):
        seen = set()
        for form in small_forms():
            for at, rule in enumerate(many_rules()):
                if (at + len(form.fields)) % 31:
                    continue
                book = Book(form, rule)
                if rule.taken == "same":
                    self.assertTrue(book.is_free("elder"))
                if rule.sending in ("bar", "wait"):
                    self.assertTrue(book.is_free("early"))
                if rule.sending == "bar" or (rule.sending == "wait" and rule.taken in ("same", "last")):
                    self.assertTrue(book.is_free("sent"))
                if (rule.checks, rule.around, rule.taken) == ("enter", "looks", "same"):
                    self.assertTrue(book.is_free("unshown"))
                    self.assertTrue(book.is_free("stale"))
                seen.update(book.verdict().kinds())
        self.assertGreaterEqual(seen, {"unshown", "stale", "elder", "sent", "early", "full"})

    def test_fact_four_for_every_form(self):
        for form in small_forms():
            for opens in ("enter", "leave", "send"):
                book = Book(form, Rule(opens, "enter", "looks"))
                self.assertTrue(book.is_free("unshown") and book.is_free("stale"))

    def test_fact_five(self):
        differ = 0
        for form in small_forms()[1:9]:
            for rule in all_rules()[len(form.fields)::43]:
                wiped = Book(form, rule.with_part("wipes", True)).standings()
                kept = Book(form, rule.with_part("wipes", False)).standings()
                if rule.checks == "enter":
                    self.assertEqual(wiped, kept)
                differ += wiped != kept
        self.assertGreater(differ, 5)

    def test_fact_six(self):
        forms = [
            form for form in small_forms() if all(parts[3] is None for name, parts in form.fields)
        ]
        self.assertEqual(len(forms), 4)
        for form in forms:
            rules = [rule for rule in all_rules() if (rule.taken, rule.sending) == ("same", "wait")]
            for rule in rules[::5] if len(form.fields) == 3 else rules[::2]:
                wanted = Book(form, rule).standings()
                for taken, sending in (("any", "go"), ("last", "bar"), ("any", "wait"), ("last", "go")):
                    other = rule.with_part("taken", taken).with_part("sending", sending)
                    book = Book(form, other)
                    self.assertEqual(book.standings(), wanted)
                    self.assertTrue(book.is_free("early") and book.is_free("elder"))


if __name__ == "__main__":
    unittest.main()
