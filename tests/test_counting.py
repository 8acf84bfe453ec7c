"""Point 43, and what is counted over books."""

import unittest

from asserts import Asserts
from plainbook import REFUSED, cases, plain_book
from samples import example_form, lone_form, small_forms, two_far_form

from wrongshown.books import Book
from wrongshown.counting import least_sent, least_shown, most_asked, never_taken
from wrongshown.errors import UnknownField
from wrongshown.forms import Form
from wrongshown.rules import Rule

NONE = (None, None)


def short_book(**named):
    form = Form(("off", "on"), (("f", ("off", None, ("m", None), None)),))
    return Book(form, Rule("enter", "leave", "own"), **named)


class SecondWayTests(Asserts):
    @classmethod
    def setUpClass(cls):
        cls.rows = [(plain, Book(plain.form, plain.rule, resets=plain.resets)) for plain in cases()]

    def test_most_asked(self):
        counts = set()
        for plain, book in self.rows:
            most = max(len(standing[4]) for standing in plain.standings)
            first = [standing for standing in plain.standings if len(standing[4]) == most][0]
            found = most_asked(book)
            self.assertIs(type(found), tuple)
            self.assertEqual(found, (most, plain.runs[first]))
            counts.add(most)
        self.assertEqual(counts, {0, 1, 3})

    def test_never_taken(self):
        some = 0
        for plain, book in self.rows:
            taken = set()
            for standing in plain.standings:
                for deed in plain.moves:
                    events = plain.outcome(standing, deed)[1]
                    if events != REFUSED:
                        taken.update(event[1:3] for event in events if event[0] == "answered" and event[4])
            wanted = [
                (name, word) for name, parts in plain.form.fields if parts[3] is not None
                for word in plain.form.words if (name, word) not in taken
            ]
            self.assertEqual(never_taken(book), wanted)
            some += wanted != []
        self.assertGreater(some, 10)

    def test_least_shown(self):
        shown = set()
        for plain, book in self.rows:
            for at, (name, parts) in enumerate(plain.form.fields):
                for message in ("m", "n", "x", "g", "far", "low", "none", "", "off", name):
                    runs = [
                        run for standing, run in plain.runs.items() if standing[2][at] == message
                    ]
                    found = least_shown(book, name, message)
                    self.assertEqual(found, runs[0] if runs else None)
                    shown.add(found is None or len(found))
        self.assertGreaterEqual(shown, {True, 1, 2, 3})

    def test_least_sent(self):
        lengths = set()
        for plain, book in self.rows:
            runs = [
                run + (deed,) for standing, run in plain.runs.items() for deed in plain.moves
                if plain.sent(standing, deed) is not None
            ]
            found = least_sent(book)
            self.assertEqual(found, runs[0] if runs else None)
            lengths.add(None if found is None else len(found))
        self.assertGreaterEqual(lengths, {None, 1, 2, 3})


class ByHandTests(Asserts):
    def test_the_example(self):
        book = short_book()
        self.assertEqual(most_asked(book), (0, ()))
        self.assertEqual(least_shown(book, "f", "m"), (("leave", "f"),))
        self.assertEqual(least_sent(book), (("enter", "f", "on"), ("send",)))
        self.assertEqual(never_taken(book), [])

    def test_a_form_that_asks(self):
        book = Book(lone_form(), Rule("enter", "leave", "own", taken="any"))
        self.assertEqual(most_asked(book)[0], 3)
        self.assertEqual(never_taken(book), [("f", "mid")])
        self.assertEqual(least_shown(book, "f", "m"), (("enter", "f", "mid"), ("leave", "f")))
        # The word mid is wrong near, so it is never asked about and its answer is never shown.
        self.assertIsNone(least_shown(book, "f", "low"))
        self.assertEqual(least_shown(book, "f", "far"), (("enter", "f", "on"), ("leave", "f"), ("answer", 0)))
        self.assertEqual(least_sent(book), (("send",), ("answer", 0)))

    def test_the_first_of_several_standings_with_as_many_questions(self):
        book = Book(two_far_form().with_room(2), Rule("leave", "leave", "own"), limit=10000)
        self.assertEqual(most_asked(book), (2, (("send",),)))
        book = Book(two_far_form().with_room(1), Rule("leave", "leave", "own"))
        self.assertEqual(most_asked(book), (1, (("leave", "c"),)))

    def test_the_fields_and_words_never_taken_stand_in_their_order(self):
        wrong = ("off", None, ("m", "m"), NONE)
        form = Form(("on", "off"), (("z", wrong), ("b", ("off", None, NONE, None)), ("a", wrong)), room=1)
        book = Book(form, Rule("send", "leave", "own"))
        self.assertEqual(never_taken(book), [("z", "on"), ("z", "off"), ("a", "on"), ("a", "off")])
        self.assertEqual(most_asked(book), (0, ()))
        self.assertIsNone(least_sent(book))

    def test_a_form_in_which_nothing_is_asked(self):
        # Every send is refused, and leaving opens nothing.
        book = Book(two_far_form().with_room(1), Rule("send", "leave", "own"))
        self.assertEqual(never_taken(book), [("c", "off"), ("c", "on"), ("d", "off"), ("d", "on")])
        self.assertIsNone(least_sent(book))
        self.assertEqual(most_asked(book), (0, ()))

    def test_answers_that_come_but_are_not_taken(self):
        # An answer counts only if it is taken, and every word can be held when it comes.
        form = Form(("off", "on"), (("f", ("off", None, NONE, (None, "x"))),), room=1)
        for taken in ("any", "same", "last"):
            self.assertEqual(never_taken(Book(form, Rule("leave", "leave", "own", taken=taken))), [])

    def test_a_refused_deed_counts_for_nothing(self):
        # The refused send asks about c ahead of d, but that is taken back.
        book = Book(two_far_form().with_room(1), Rule("send", "enter", "own", sending="go"))
        self.assertEqual(most_asked(book), (0, ()))
        self.assertIsNone(least_sent(book))

    def test_with_and_without_resets(self):
        form = Form(("off", "on"), (("f", ("off", None, NONE, (None, "x"))),), room=3)
        for opens, resets in (("send", True), ("send", False), ("enter", False)):
            rule = Rule(opens, "enter", "own", taken="last", sending="bar")
            plain = plain_book(form, rule, resets)
            most = max(len(standing[4]) for standing in plain.standings)
            self.assertEqual(most_asked(Book(form, rule, resets=resets))[0], most)

    def test_names_that_are_no_fields(self):
        for book in (short_book(), Book(example_form().with_room(1), Rule("enter", "enter", "own"))):
            for name in ("", "z", "F", "f ", "off", "m", "far", "abcdefghi", "a b"):
                for message in ("m", "none", ""):
                    self.assert_refused(UnknownField, {"field": name}, least_shown, book, name, message)

    def test_messages_that_are_never_shown(self):
        for message in ("", "M", "off", "f", "none", "abcdefghi"):
            self.assertIsNone(least_shown(short_book(), "f", message))

    def test_the_book_stays_as_it_is(self):
        for form in small_forms()[:4]:
            book = Book(form, Rule("leave", "enter", "own"))
            held = (book.standings(), book.faults())
            name = form.field_names()[0]
            self.assert_new_list(lambda: never_taken(book))
            most_asked(book)
            least_shown(book, name, "m")
            least_sent(book)
            self.assertEqual((book.standings(), book.faults()), held)


if __name__ == "__main__":
    unittest.main()
