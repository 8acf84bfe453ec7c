"""Point 8: near entries, far entries and true errors at given words."""

import itertools
import unittest

from samples import example_form, extreme_values, odd_values, odd_values_but

from wrongshown.errors import InvalidWords, UnknownField, UnknownWord
from wrongshown.forms import Form
from wrongshown.truth import far_entry, near_entry, true_error, true_errors

# What a field called by one letter says of its words: a message that is made of the letter and of
# the words, so that each entry of a table differs from the others, or None where the sum of the
# places of the words is one of the gaps.
WORDS = ("p", "q", "r")


def said(name, told, words, gaps):
    """The entry that a field has for the words that matter to it."""
    if sum(WORDS.index(word) for word in words) in gaps:
        return None
    return name + told + "".join(words)


def field_of(name, looks, far, gaps, words):
    """A field whose entries are those of said."""
    if looks is None:
        near = tuple(said(name, "n", (own,), gaps) for own in words)
    else:
        near = tuple(tuple(said(name, "n", (own, other), gaps) for other in words) for own in words)
    answers = tuple(said(name, "f", (own,), gaps) for own in words) if far else None
    return (name, (words[0], looks, near, answers))


def sample_forms():
    """Forms of one to three fields, with and without looks and far tables, with their plans."""
    plans = [
        [("a", None, False, ())], [("a", None, True, (0,))], [("a", None, True, (0, 1, 2))],
        [("b", "a", True, (0, 2)), ("a", None, False, (1,))],
        [("a", "b", True, (1,)), ("b", "a", True, (0, 1))],
        [("c", "a", False, (0, 3)), ("a", "b", True, (2, 4)), ("b", "c", True, (0, 1, 2, 3, 4))],
        [("x", None, True, (1,)), ("y", "x", True, (0, 2)), ("z", "x", False, (1, 3))],
        [("x", "z", True, (0, 1, 2, 3, 4)), ("y", "z", False, (1, 2)), ("z", None, True, (0, 2))],
    ]
    for words in (WORDS[:2], WORDS):
        for plan in plans:
            fields = tuple(field_of(name, looks, far, gaps, words) for name, looks, far, gaps in plan)
            yield plan, Form(words, fields)


class EntryTests(unittest.TestCase):
    def test_every_field_at_every_tuple_of_words(self):
        for plan, form in sample_forms():
            names = [row[0] for row in plan]
            for words in itertools.product(form.words, repeat=len(names)):
                held = dict(zip(names, words))
                errors = []
                for name, looks, far, gaps in plan:
                    seen = (held[name],) if looks is None else (held[name], held[looks])
                    near = said(name, "n", seen, gaps)
                    answer = said(name, "f", (held[name],), gaps) if far else None
                    errors.append(near if near is not None else answer)
                    with self.subTest(plan, words=words, name=name):
                        self.assertEqual(near_entry(form, words, name), near)
                        self.assertEqual(far_entry(form, name, held[name]), answer)
                        self.assertEqual(true_error(form, words, name), errors[-1])
                self.assertEqual(true_errors(form, words), tuple(errors))

    def test_a_field_that_looks_has_its_own_words_as_rows(self):
        near = (("nn", "nf"), ("fn", "ff"))
        form = Form(("n", "f"), (("a", ("n", "b", near, None)), ("b", ("n", None, (None, None), None))))
        for own, other in itertools.product("nf", repeat=2):
            self.assertEqual(near_entry(form, (own, other), "a"), own + other)

    def test_a_near_message_stands_above_the_far_entry(self):
        form = Form(("n", "f"), (("a", ("n", None, ("near", None), ("far", None))),))
        self.assertEqual(true_error(form, ("n",), "a"), "near")
        self.assertEqual(true_error(form, ("f",), "a"), None)
        form = form.with_table("a", "near", (None, None))
        self.assertEqual(true_error(form, ("n",), "a"), "far")

    def test_first_words_and_room_do_not_matter(self):
        form = example_form()
        other = Form(form.words, (("a", ("on", *form.parts_of("a")[1:])), form.fields[1]), room=1)
        for words in itertools.product(("off", "on"), repeat=2):
            self.assertEqual(true_errors(form, words), true_errors(other, words))

    def test_a_word_with_the_name_of_a_field(self):
        form = Form(("b", "a"), (("a", ("b", "b", (("m", None), (None, None)), None)),
                                 ("b", ("b", None, (None, "n"), ("f", "g")))))
        self.assertEqual(true_errors(form, ("b", "b")), ("m", "f"))
        self.assertEqual(true_errors(form, ("a", "a")), (None, "n"))

    def test_true_errors_is_a_tuple_in_the_order_of_the_form(self):
        form = Form(("x", "y"), (("z", ("x", None, ("first", None), None)),
                                 ("a", ("x", None, ("second", None), None))))
        self.assertEqual(true_errors(form, ("x", "x")), ("first", "second"))


class RefusalTests(unittest.TestCase):
    def setUp(self):
        self.form = example_form()
        self.wrong_words = [
            *odd_values_but(("off", "on")),
            ("off",), ("off", "off", "off"), ["off", "off"], ("off", "mid"), ("mid", "off"),
            ("off", None), ("off", 0), ("off", "On"), ("off", ""), ("off", ("on",)), ("off", ["on"]),
            ("off", True), {"a": "off", "b": "off"}, "off", ("off", "on "), ("a", "b"),
        ]

    def test_words_of_any_kind(self):
        for words in [*self.wrong_words, *extreme_values()]:
            for call in (
                lambda: near_entry(self.form, words, "a"),
                lambda: true_error(self.form, words, "a"),
                lambda: true_errors(self.form, words),
                lambda: near_entry(self.form, words, "zzz"),
                lambda: true_error(self.form, words, "zzz"),
                lambda: near_entry(self.form, words, ["a"]),
                lambda: true_error(self.form, words, ["a"]),
            ):
                with self.assertRaises(InvalidWords) as caught:
                    call()
                self.assertIs(caught.exception.words, words)

    def test_words_that_hold_a_word_of_any_kind(self):
        for word in [*odd_values_but("off", "on"), *extreme_values()]:
            for words in (("off", word), (word, "off"), (word, word)):
                for ask in (near_entry, true_error):
                    with self.assertRaises(InvalidWords) as caught:
                        ask(self.form, words, "a")
                    self.assertIs(caught.exception.words, words)
                self.assertRaises(InvalidWords, true_errors, self.form, words)

    def test_words_of_another_number_of_fields(self):
        lone = Form(("off", "on"), (self.form.fields[0],))
        for words in ((), ("off", "on"), "off", ["off"]):
            self.assertRaises(InvalidWords, true_errors, lone, words)
        self.assertEqual(true_errors(lone, ("on",)), ("m",))

    def test_names_of_any_kind(self):
        for name in [*odd_values_but("a"), *extreme_values(), "c", "off", "A", ("a",), ["b"]]:
            for call in (
                lambda: near_entry(self.form, ("off", "on"), name),
                lambda: true_error(self.form, ("off", "on"), name),
                lambda: far_entry(self.form, name, "on"),
                lambda: far_entry(self.form, name, "zzz"),
                lambda: far_entry(self.form, name, ["on"]),
            ):
                with self.assertRaises(UnknownField) as caught:
                    call()
                self.assertIs(caught.exception.field, name)

    def test_a_far_word_of_any_kind(self):
        for word in [*odd_values_but("off", "on"), *extreme_values(), "mid", "b", ("on",), ["on"]]:
            for name in ("a", "b"):
                with self.assertRaises(UnknownWord) as caught:
                    far_entry(self.form, name, word)
                self.assertIs(caught.exception.word, word)

    def test_the_form_stays_as_it_is(self):
        for words in [("on", "off"), *odd_values()]:
            for ask in (near_entry, true_error):
                try:
                    ask(self.form, words, "b")
                except InvalidWords:
                    pass
        self.assertTrue(self.form == example_form())


if __name__ == "__main__":
    unittest.main()
