"""Points 23 to 25: the texts of forms and of lists of deeds, and the reading of such texts."""

import itertools
import random
import unittest

import plainway
from asserts import Asserts
from samples import example_form, many_forms

from wrongshown.errors import InvalidForm, InvalidText
from wrongshown.forms import Form
from wrongshown.standings import deeds
from wrongshown.texts import format_deeds, format_form, parse_deeds, parse_form

ALONE = "words off on\nroom 3\nfield a\nfirst off\nalone\nnear - m\n"
LOOKS = (
    "words off on\nroom 2\nfield a\nfirst off\nlooks b\nnear - m\nnear m -\nfar - far\n"
    "field b\nfirst on\nalone\nnear x y\n"
)
NO_NAMES = ["", "A", "aB", "abcdefghi", "a1", "a-", "-", "--", "1", "a\tb", "\t", "a.", "None", "~"]
# How a line of each kind looks, and lines of that kind that are not allowed anywhere.
LINES = {
    "words": "words a b", "room": "room 1", "field": "field a", "first": "first a",
    "alone": "alone", "looks": "looks a", "near": "near - a", "far": "far a -",
}
SPOILED = [
    "", " ", "\t", "-", "a", "word a", "Words a b", "words", "words ", "words -", "words a -",
    "words a  b", " words a b", "words a b ", "words\ta b", "words a\tb", "words abcdefghi", "words a1",
    "words a,b", "wordsa b", "room", "room ", "room 0", "room 4", "room 10", "room 33", "room -1",
    "room +1", "room 01", "room 1 1", "room  1", "room 1 ", " room 1", "room\t1", "room a", "Room 1",
    "room 1.0", "field", "field ", "field a b", "field  a", "field a ", " field a", "field -",
    "field A", "field abcdefghi", "Field a", "field\ta", "field 1", "fields a", "first", "first ",
    "first a b", "first -", "first A", "first  a", "first a ", " first a", "First a", "alone ",
    " alone", "alone a", "alone -", "Alone", "ALONE", "alon", "looks", "looks ", "looks -",
    "looks a b", "looks  a", "looks a ", " looks a", "looks A", "Looks a", "near", "near ", "near  -",
    "near - ", " near -", "near --", "near -a", "near A", "near abcdefghi", "near - m1", "Near -",
    "near\t-", "near None", "near -\t-", "far", "far ", "far  -", "far - ", " far -", "far --",
    "far A", "far - abcdefghi", "Far -", "far\t-", "enter a b", "leave a", "send", "reset", "answer 0",
    "#",
]
# What may stand directly behind what, as the document says it line by line.
BEHIND = {
    "words": ["room"], "room": ["field"], "field": ["first"], "first": ["alone", "looks"],
    "alone": ["near"], "looks": ["near"], "near of alone": ["field", "far"],
    "near of looks": ["near", "field", "far"], "far": ["field"],
}


def text_of(lines):
    return "".join(line + "\n" for line in lines)


def state_behind(states, kind):
    if kind == "near":
        return "near of alone" if states[-1] == "alone" else "near of looks"
    return kind


class FormatFormTests(Asserts):
    def test_each_line(self):
        form = Form(
            ("p", "q", "r"),
            (("one", ("r", None, (None, "m", "abcdefgh"), (None, None, None))),
             ("two", ("p", "one", ((None, "m", None), ("x", None, "y"), (None, None, None)), None)),
             ("words", ("q", "two", (("a", "b", "c"), ("d", "e", "f"), ("g", "h", "i")), ("j", None, "k")))),
            room=1,
        )
        self.assertEqual(
            format_form(form),
            "words p q r\nroom 1\n"
            "field one\nfirst r\nalone\nnear - m abcdefgh\nfar - - -\n"
            "field two\nfirst p\nlooks one\nnear - m -\nnear x - y\nnear - - -\n"
            "field words\nfirst q\nlooks two\nnear a b c\nnear d e f\nnear g h i\nfar j - k\n",
        )

    def test_parsing_the_text_of_a_form_returns_an_equal_form(self):
        for form in many_forms():
            for room in (1, 2, 3):
                text = format_form(form.with_room(room))
                self.assertEqual(parse_form(text), form.with_room(room))
                self.assertEqual(format_form(parse_form(text)), text)
                self.assertEqual(text.count(f"room {room}\n"), 1)

    def test_a_form_whose_names_are_heads_of_lines(self):
        form = Form(("near", "far"), (
            ("field", ("far", "first", ((None, "near"), ("alone", "looks")), ("room", "far"))),
            ("first", ("near", None, ("words", None), None)),
        ))
        self.assertEqual(parse_form(format_form(form)), form)


class ParseFormTests(Asserts):
    def assert_line(self, text, line):
        self.assert_refused(InvalidText, {"line": line}, parse_form, text)

    def test_the_parts_of_the_form(self):
        form = parse_form(LOOKS)
        self.assertEqual(form.words, ("off", "on"))
        self.assertEqual(form.room, 2)
        self.assertIs(type(form.room), int)
        self.assertEqual(form.fields, (
            ("a", ("off", "b", ((None, "m"), ("m", None)), (None, "far"))),
            ("b", ("on", None, ("x", "y"), None)),
        ))

    def test_texts_without_a_last_newline(self):
        for text in ("", "words off on", ALONE[:-1], ALONE + "field b", ALONE + " ", ALONE + "\t",
                     "x", " ", "\nx", "words OFF\nroom 1"):
            self.assert_line(text, 0)

    def test_texts_that_end_too_early(self):
        self.assert_line("words off on\n", 2)
        for text in (ALONE, LOOKS):
            lines = text.split("\n")[:-1]
            for many in range(3, len(lines)):
                if not lines[many - 1].startswith(("near", "far")):
                    self.assert_line(text_of(lines[:many]), many + 1)

    def test_two_lines_are_a_form_without_fields(self):
        self.assert_refused(InvalidForm, {"part": "fields", "field": ""}, parse_form,
                            "words off on\nroom 3\n")
        self.assert_refused(InvalidForm, {"part": "words", "field": ""}, parse_form,
                            "words off\nroom 3\n")

    def test_empty_lines(self):
        self.assert_line("\n", 1)
        self.assert_line("\n\n", 1)
        self.assert_line("\n" + ALONE, 1)
        self.assert_line(ALONE + "\n", 7)
        lines = LOOKS.split("\n")[:-1]
        for at in range(len(lines)):
            self.assert_line(text_of(lines[:at] + [""] + lines[at:]), at + 1)

    def test_a_line_that_is_spoiled(self):
        for text in (ALONE, LOOKS):
            lines = text.split("\n")[:-1]
            for at in range(len(lines)):
                for spoiled in SPOILED:
                    self.assert_line(text_of(lines[:at] + [spoiled] + lines[at + 1:]), at + 1)

    def test_the_first_line_that_is_not_allowed_is_named(self):
        lines = LOOKS.split("\n")[:-1]
        for at, later in itertools.combinations(range(len(lines)), 2):
            spoiled = [line.upper() if spot in (at, later) else line for spot, line in enumerate(lines)]
            self.assert_line(text_of(spoiled), at + 1)
        # A line that is not allowed is told before the text that ends too early.
        self.assert_line("words off\nroom 4\nfield a\n", 2)

    def test_names_that_are_none(self):
        for name in NO_NAMES:
            for at, head in ((2, "field"), (3, "first"), (4, "looks")):
                lines = LOOKS.split("\n")[:-1]
                lines[at] = f"{head} {name}"
                self.assert_line(text_of(lines), at + 1)
            if name != "-":
                for at, head in ((0, "words off"), (5, "near -"), (7, "far -")):
                    lines = LOOKS.split("\n")[:-1]
                    lines[at] = f"{head} {name}"
                    self.assert_line(text_of(lines), at + 1)

    def test_every_order_of_few_lines(self):
        """All sequences of up to seven lines, each told by the table of what may follow what."""
        todo = [[]]
        seen = 0
        while todo:
            kinds = todo.pop()
            states = []
            for kind in kinds:
                states.append(state_behind(states, kind))
            text = text_of([LINES[kind] for kind in kinds])
            for kind in LINES:
                allowed = BEHIND[states[-1]] if states else ["words"]
                if kind not in allowed:
                    self.assert_line(text + LINES[kind] + "\n", len(kinds) + 1)
                    seen += 1
                elif len(kinds) < 8:
                    todo.append(kinds + [kind])
            if len(kinds) == 1 or (len(kinds) > 2 and kinds[-1] not in ("near", "far")):
                self.assert_line(text, len(kinds) + 1)
            elif len(kinds) > 1:
                self.assert_no_line(text)
        self.assertGreater(seen, 100)

    def assert_no_line(self, text):
        """All lines are allowed: the text is that of a form or of something that is none."""
        try:
            self.assertEqual(format_form(parse_form(text)), text)
        except InvalidForm:
            pass

    def test_a_line_that_is_left_out_doubled_or_moved(self):
        lines = LOOKS.split("\n")[:-1]
        # The near lines are allowed twice, and left out: then the table is not valid.
        for at, left_out in enumerate([1, 2, 3, 4, 5, None, None, None, 9, 10, 11, 12]):
            shorter = text_of(lines[:at] + lines[at + 1:])
            if left_out is not None:
                self.assert_line(shorter, left_out)
        self.assertEqual(parse_form(text_of(lines[:7] + lines[8:])).parts_of("a")[3], None)
        for at in (5, 6):
            self.assert_refused(InvalidForm, {"part": "near", "field": "a"}, parse_form,
                                text_of(lines[:at] + lines[at + 1:]))
            self.assert_refused(InvalidForm, {"part": "near", "field": "a"}, parse_form,
                                text_of(lines[:at] + lines[at:at + 1] + lines[at:]))
        for at in (0, 1, 2, 3, 4, 7, 8, 9, 10, 11):
            self.assert_line(text_of(lines[:at] + lines[at:at + 1] + lines[at:]), at + 2)
        for at in range(len(lines) - 1):
            moved = lines[:at] + [lines[at + 1], lines[at]] + lines[at + 2:]
            if at == 5:
                self.assertEqual(parse_form(text_of(moved)).parts_of("a")[2], (("m", None), (None, "m")))
            else:
                self.assert_line(text_of(moved), at + 2 if at in (6, 7) else at + 1)

    def test_right_texts_of_forms_that_are_not_valid(self):
        def wrong(part, field, text):
            self.assert_refused(InvalidForm, {"part": part, "field": field}, parse_form, text)
        wrong("words", "", ALONE.replace("words off on", "words off"))
        wrong("words", "", ALONE.replace("words off on", "words off off"))
        wrong("words", "", ALONE.replace("words off on", "words off on mid low"))
        wrong("fields", "", LOOKS.replace("field b", "field a"))
        wrong("fields", "", ALONE + "".join(
            ALONE[ALONE.index("field"):].replace("field a", f"field {name}") for name in "bcd"))
        wrong("first", "a", ALONE.replace("first off", "first mid"))
        wrong("looks", "a", LOOKS.replace("looks b", "looks a"))
        wrong("looks", "a", LOOKS.replace("looks b", "looks c"))
        wrong("near", "a", ALONE.replace("near - m", "near -"))
        wrong("near", "a", ALONE.replace("near - m", "near - m -"))
        wrong("near", "a", LOOKS.replace("near - m\n", "near - m m\n"))
        wrong("near", "a", LOOKS.replace("near - m\n", ""))
        wrong("near", "a", LOOKS.replace("near - m\n", "near - m\nnear - -\n"))
        wrong("far", "a", LOOKS.replace("far - far", "far -"))
        wrong("far", "a", LOOKS.replace("far - far", "far - far -"))
        wrong("first", "b", LOOKS.replace("first on", "first far"))
        wrong("first", "a", LOOKS.replace("first off", "first far").replace("near x y", "near x"))

    def test_a_single_near_line_behind_looks_is_a_table_of_one_row(self):
        text = "words a b\nroom 1\nfield a\nfirst a\nlooks b\nnear - -\nfield b\nfirst a\nalone\nnear - -\n"
        self.assert_refused(InvalidForm, {"part": "near", "field": "a"}, parse_form, text)

    def test_long_texts(self):
        self.assert_line(ALONE + "\n" * 5000, 7)
        many = "".join(f"near {'- ' * 3000}-\n" for _ in range(50))
        self.assert_refused(InvalidForm, {"part": "near", "field": "a"}, parse_form,
                            LOOKS.replace("near - m\n", many))
        self.assert_line("words " + "a " * 20000 + "\n", 1)


class DeedTextTests(Asserts):
    def assert_line(self, text, line):
        self.assert_refused(InvalidText, {"line": line}, parse_deeds, text)

    def test_each_kind_of_deed(self):
        done = [("enter", "a", "on"), ("leave", "b"), ("send",), ("answer", 0), ("answer", 1),
                ("answer", 2), ("reset",)]
        text = "enter a on\nleave b\nsend\nanswer 0\nanswer 1\nanswer 2\nreset\n"
        self.assertEqual(format_deeds(done), text)
        self.assertEqual(parse_deeds(text), done)
        self.assertEqual([type(deed) for deed in parse_deeds(text)], [tuple] * 7)
        self.assertIs(type(parse_deeds("answer 1\n")[0][1]), int)

    def test_the_empty_list(self):
        self.assertEqual(format_deeds([]), "")
        self.assertEqual(parse_deeds(""), [])

    def test_names_of_no_form(self):
        done = [("enter", "abcdefgh", "z"), ("leave", "leave"), ("enter", "send", "answer")]
        self.assertEqual(parse_deeds(format_deeds(done)), done)

    def test_the_deeds_of_forms_in_any_order(self):
        dice = random.Random(25)
        for form in many_forms():
            done = [dice.choice(deeds(form)) for _ in range(60)]
            kept = list(done)
            text = format_deeds(done)
            self.assertEqual(done, kept)
            self.assertEqual(text.count("\n"), 60)
            self.assertEqual(parse_deeds(text), done)

    def test_the_list_is_a_new_one(self):
        self.assert_new_list(lambda: parse_deeds("send\nreset\n"))
        self.assert_new_list(lambda: parse_deeds(""))

    def test_texts_without_a_last_newline(self):
        for text in ("send", "send\nreset", " ", "x", "enter a on\n ", "\nx", "\t"):
            self.assert_line(text, 0)

    def test_lines_that_are_none(self):
        spoiled = [
            "", " ", "\t", "enter", "enter a", "enter a on on", "enter  a on", "enter a  on",
            "enter a on ", " enter a on", "enter\ta on", "Enter a on", "enter A on", "enter a On",
            "enter a -", "enter - on", "enter a 1", "enter abcdefghi on", "enter a abcdefghi", "enter a ",
            "leave", "leave ", "leave a b", "leave  a", "leave a ", " leave a", "leave A", "leave -",
            "LEAVE a", "leave abcdefghi", "leave\ta", "send a", "send ", " send", "Send", "send send",
            "answer", "answer ", "answer 3", "answer -1", "answer 00", "answer 10", "answer +1",
            "answer 0 0", "answer  0", "answer 0 ", " answer 0", "answer a", "Answer 0", "answer\t0",
            "answer True", "reset a", "reset ", " reset", "RESET", "words off on", "alone", "start",
            "send,reset", "None", "#",
        ]
        for line in spoiled:
            self.assert_line(line + "\n", 1)
            self.assert_line(f"send\nenter a on\n{line}\nreset\nX\n", 3)
            self.assert_line(f"{line}\n{line}\n", 1)
            self.assert_line(f"answer 2\n{line}\n", 2)

    def test_lines_in_a_second_way(self):
        words = ["enter", "leave", "send", "answer", "reset", "a", "on", "0", "2", "3", "", "abcdefghi"]
        for many in (1, 2, 3):
            for parts in itertools.product(words, repeat=many):
                names = [plainway.is_name(part) for part in parts[1:]]
                right = (
                    (parts[0] == "enter" and names == [True, True])
                    or (parts[0] == "leave" and names == [True])
                    or (parts[0] in ("send", "reset") and names == [])
                    or (parts[0] == "answer" and parts[1:] in (("0",), ("2",)))
                )
                text = " ".join(parts) + "\n"
                if right:
                    self.assertEqual(format_deeds(parse_deeds(text)), text)
                else:
                    self.assert_line(text, 1)


class ExampleOfTextsTests(Asserts):
    def test_the_example_form(self):
        self.assertEqual(parse_form(format_form(example_form())), example_form())


if __name__ == "__main__":
    unittest.main()
