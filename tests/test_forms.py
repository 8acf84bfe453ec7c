"""Points 4 to 7: what a form is, what it refuses and in which order, and its methods."""

import copy
import itertools
import unittest

from samples import example_form, extreme_values, nested, odd_values, odd_values_but

from wrongshown.errors import InvalidForm, InvalidTable, UnknownField
from wrongshown.forms import Form

WORDS = ("off", "on", "mid")
FLAT = (None, "m", None)
SQUARE = (("p", None, "q"), (None, None, None), ("p", "p", "r"))
FIELDS = (
    ("a", ("off", "b", SQUARE, None)),
    ("b", ("mid", None, FLAT, ("far", None, "far"))),
    ("c", ("on", "a", SQUARE, (None, None, None))),
)
FIELD_PARTS = ("first", "looks", "near", "far")

# Tables that are wrong for three words, whether they are near or far ones, flat or not.
NO_TABLES = [
    [], [None, None, None], [FLAT, FLAT, FLAT], {}, {"off": None, "on": None, "mid": None},
    (), (None,), (None, None), (None, None, None, None), (SQUARE, SQUARE, SQUARE),
    (None, "m", "M"), (None, "m", ""), (None, "m", "abcdefghi"), (None, "m", 0),
    (None, "m", False), (None, "m", ["m"]), (None, "m", ("m",)), (None, "m", {}), (FLAT, FLAT, None),
    (FLAT, None, FLAT), (FLAT, FLAT), (FLAT, FLAT, FLAT, FLAT), (FLAT, FLAT, list(FLAT)),
    (FLAT, FLAT, (None, None)), (FLAT, FLAT, FLAT + FLAT), (FLAT, FLAT, (None, None, "-")),
    (FLAT, FLAT, (None, None, FLAT)), "off", "mmm", 0, 3, True, False,
    nested(20, lambda inner: (inner, None, None)),
]


def parts_of_a_form():
    """The parts of a right form, in a shape in which each one can be changed."""
    fields = [[name, list(field)] for name, field in FIELDS]
    return {"words": WORDS, "fields": fields, "room": 3}


def as_tuples(fields):
    if not isinstance(fields, list):
        return fields
    return tuple((name, tuple(field)) for name, field in fields)


def refused(case, words, fields, room=3):
    """The part and the field that Form tells of, or None if it takes the parts."""
    before = copy.deepcopy((words, fields, room))
    try:
        Form(words, fields, room=room)
    except InvalidForm as error:
        told = (error.part, error.field)
    else:
        told = None
    case.assertEqual((words, fields, room), before)
    return told


def wrong_values(words):
    """For each part of a field, by the index of the field, values that it may not have."""
    names = ("a", "b", "c")
    wrong = {}
    for at, name in enumerate(names):
        wrong[(at, 0)] = odd_values_but(*words)
        wrong[(at, 1)] = odd_values_but(None, *[other for other in names if other != name])
        wrong[(at, 1)].append(name)
        near = [FLAT] if FIELDS[at][1][1] is not None else [SQUARE]
        wrong[(at, 2)] = [None, *NO_TABLES, *near]
        wrong[(at, 3)] = [*NO_TABLES, SQUARE]
    return wrong


class TakenTests(unittest.TestCase):
    def test_the_parts_are_kept_as_passed(self):
        words, fields = tuple(list(WORDS)), tuple(list(FIELDS))
        form = Form(words, fields, room=2)
        self.assertIs(form.words, words)
        self.assertIs(form.fields, fields)
        self.assertEqual(form.room, 2)
        self.assertLessEqual({"words", "fields", "room"}, set(vars(form)))

    def test_the_room_is_three_if_it_is_left_out(self):
        form = Form(WORDS, FIELDS)
        self.assertEqual(form.room, 3)
        self.assertNotIsInstance(form.room, bool)

    def test_each_room_from_one_to_three_is_taken(self):
        for room in (1, 2, 3):
            self.assertEqual(Form(WORDS, FIELDS, room=room).room, room)

    def test_room_is_passed_by_keyword_alone(self):
        with self.assertRaises(TypeError):
            Form(WORDS, FIELDS, 3)

    def test_two_and_three_words_and_one_to_three_fields(self):
        for words in (("off", "on"), ("off", "on", "mid")):
            entries = (None,) * len(words)
            for names in (("a",), ("b", "a"), ("z", "y", "x")):
                fields = tuple((name, ("on", None, entries, entries)) for name in names)
                self.assertEqual(Form(words, fields).field_names(), names)

    def test_names_of_one_and_of_eight_letters(self):
        fields = (("abcdefgh", ("zzzzzzzz", None, ("z", "abcdefgh"), None)),)
        self.assertEqual(Form(("a", "zzzzzzzz"), fields).words, ("a", "zzzzzzzz"))

    def test_a_word_may_have_the_name_of_a_field_and_of_a_message(self):
        fields = (("off", ("on", "on", (("off", None), (None, "on")), None)),
                  ("on", ("off", "off", (("off", None), (None, "on")), ("on", "off"))))
        self.assertEqual(Form(("off", "on"), fields).readers("off"), ("on",))

    def test_two_fields_may_look_at_each_other(self):
        fields = (("a", ("off", "b", ((None, "m"), ("m", "m")), None)),
                  ("b", ("off", "a", ((None, "m"), ("m", "m")), None)))
        form = Form(("off", "on"), fields)
        self.assertEqual((form.readers("a"), form.readers("b")), (("b",), ("a",)))

    def test_a_word_may_be_the_first_word_of_each_field(self):
        for word in WORDS:
            fields = tuple((name, (word, *field[1:])) for name, field in FIELDS)
            self.assertEqual(Form(WORDS, fields).parts_of("c")[0], word)


class WordsTests(unittest.TestCase):
    def test_wrong_words(self):
        wrong = [
            *[value for value in odd_values_but(("off", "on"), ("a", "b", "c"))],
            ("off",), ("off", "on", "mid", "end"), ["off", "on", "mid"], ("off", "off"),
            ("off", "on", "off"), ("on", "off", "off"), ("off", None), ("off", "On"), ("off", ""),
            ("off", "abcdefghi"), ("off", "a b"), ("off", 1), (True, False), ("off", ["on"]),
            ("off", "on\n"), ("off", ("on",)), ("off", {}), ("off", "on", 3), "offon",
            {"off": 1, "on": 2}, ("off", "on "), ("off", "o-n"), ("off", "\u00e4"), ("off", "\u0430"),
        ]
        for value in wrong:
            with self.subTest(str(value)):
                self.assertEqual(refused(self, value, FIELDS), ("words", ""))

    def test_a_word_must_be_one_to_eight_letters_from_a_to_z(self):
        for code in range(0, 1200):
            sign = chr(code)
            told = refused(self, ("off", sign), (("a", ("off", None, (None, None), None)),))
            self.assertEqual(told, None if sign in "abcdefghijklmnopqrstuvwxyz" else ("words", ""))


class FieldsTests(unittest.TestCase):
    def test_wrong_fields(self):
        one = FIELDS[1]
        field = one[1]
        wrong = [
            *odd_values(),
            (), [one], [list(one)], (list(one),), {"b": field}, (one, FIELDS[1]),
            (one, ("b", FIELDS[0][1])), (one, ("c", field), ("c", field)), one, (field,),
            (one, ("c", field), ("d", field), ("e", field)),
            (("b",),), (("b", field, None),), ((field, "b"),), (("b", list(field)),), (("b", None),),
            (("b", field[:3]),), (("b", (*field, None)),), (("b", ()),), (("b", "mid"),),
            (("B", field),), (("", field),), (("abcdefghi", field),), ((None, field),), ((1, field),),
            ((True, field),), ((("b",), field),), ((["b"], field),), (({}, field),), (("b ", field),),
            (one, None), (None, one), (one, ("c", field, field)), (one, ("c", field), ("d", None)),
            (one, [["c"], field]), "abc", ("ab", "cd"), (one, "cd"),
        ]
        for value in wrong:
            with self.subTest(str(value)):
                self.assertEqual(refused(self, WORDS, value), ("fields", ""))

    def test_a_field_that_is_no_tuple_of_four_is_told_before_the_parts_of_an_earlier_one(self):
        wrong = (("a", ("zzz", "zzz", None, 0)), ("b", (None, None, None)))
        self.assertEqual(refused(self, WORDS, wrong), ("fields", ""))
        wrong = (("a", ("zzz", "zzz", None, 0)), ("a", ("zzz", "zzz", None, 0)))
        self.assertEqual(refused(self, WORDS, wrong), ("fields", ""))


class FieldPartTests(unittest.TestCase):
    def test_each_part_broken_alone(self):
        for (at, part), values in wrong_values(WORDS).items():
            for value in values:
                fields = parts_of_a_form()["fields"]
                fields[at][1][part] = value
                with self.subTest((at, part), value=value):
                    told = refused(self, WORDS, as_tuples(fields))
                    self.assertEqual(told, (FIELD_PARTS[part], "abc"[at]))

    def test_looks_is_no_word_and_no_index(self):
        for value in ("off", "on", "d", 0, 1, "", True, ("b",), ["b"]):
            told = refused(self, WORDS, (("a", ("off", value, SQUARE, None)), *FIELDS[1:]))
            self.assertEqual(told, ("looks", "a"))

    def test_a_lone_field_can_look_at_nothing(self):
        for value in ("a", "b", "off"):
            told = refused(self, WORDS, (("a", ("off", value, SQUARE, None)),))
            self.assertEqual(told, ("looks", "a"))

    def test_near_must_fit_looks(self):
        both = [((None, None), (None, None)), (None, None)]
        for looks, good, bad in (("b", *both), (None, *both[::-1])):
            for near, told in ((good, None), (bad, ("near", "a"))):
                fields = (("a", ("x", looks, near, None)), ("b", ("x", None, (None, None), None)))
                self.assertEqual(refused(self, ("x", "y"), fields), told)

    def test_far_is_flat_also_for_a_field_that_looks(self):
        fields = (("a", ("x", "b", ((None, None), (None, None)), ((None, None), (None, None)))),
                  ("b", ("x", None, (None, None), None)))
        self.assertEqual(refused(self, ("x", "y"), fields), ("far", "a"))

    def test_every_entry_of_every_table_is_judged(self):
        for bad in (0, False, True, "", "M", "abcdefghi", (), (None,), [], {}, "-"):
            for row in range(3):
                flat = list(FLAT)
                flat[row] = bad
                for part, told in ((2, ("near", "b")), (3, ("far", "b"))):
                    fields = parts_of_a_form()["fields"]
                    fields[1][1][part] = tuple(flat)
                    self.assertEqual(refused(self, WORDS, as_tuples(fields)), told)
                for column in range(3):
                    square = [list(items) for items in SQUARE]
                    square[row][column] = bad
                    fields = parts_of_a_form()["fields"]
                    fields[0][1][2] = tuple(tuple(items) for items in square)
                    self.assertEqual(refused(self, WORDS, as_tuples(fields)), ("near", "a"))


class RoomTests(unittest.TestCase):
    def test_wrong_rooms(self):
        for value in [*odd_values_but(1, 2, 3), -3, 4, 100, "3", (3,), [1]]:
            with self.subTest(str(value)):
                self.assertEqual(refused(self, WORDS, FIELDS, room=value), ("room", ""))


class OrderTests(unittest.TestCase):
    def breaks(self):
        """Ways to break a form: the part and field told of, and what breaks, in their order."""
        def words(parts):
            parts["words"] = ["off", "on", "mid"]

        def fields(parts):
            parts["fields"] = as_tuples(parts["fields"]) + (None,)

        def room(parts):
            parts["room"] = True

        def part_breaker(at, part, value):
            def broken(parts):
                parts["fields"][at][1][part] = value
            return broken

        rows = [(("words", ""), words), (("fields", ""), fields)]
        for at, name in enumerate("abc"):
            for part, value in enumerate((None, "zzz", [None], 0)):
                rows.append(((FIELD_PARTS[part], name), part_breaker(at, part, value)))
        return [*rows, (("room", ""), room)]

    def test_of_several_broken_parts_the_first_one_is_told(self):
        rows = self.breaks()
        for count in (1, 2, 3):
            for chosen in itertools.combinations(rows, count):
                parts = parts_of_a_form()
                # The fields as a whole are broken last: behind that no part can be set.
                for _, broken in reversed(chosen):
                    broken(parts)
                told = refused(self, parts["words"], as_tuples(parts["fields"]), parts["room"])
                with self.subTest([row[0] for row in chosen]):
                    self.assertEqual(told, chosen[0][0])

    def test_all_broken(self):
        parts = parts_of_a_form()
        for _, broken in reversed(self.breaks()):
            broken(parts)
        told = refused(self, parts["words"], as_tuples(parts["fields"]), parts["room"])
        self.assertEqual(told, ("words", ""))

    def test_wrong_words_are_told_whatever_the_fields_are(self):
        for value in odd_values():
            self.assertEqual(refused(self, ("off",), value, value), ("words", ""))

    def test_values_that_cannot_be_written_out_are_judged(self):
        form = example_form()
        for value in extreme_values():
            for words, fields, room, told in (
                (value, (), 0, "words"), (("off", value), (), 0, "words"), (WORDS, value, 0, "fields"),
                (WORDS, (value,), 0, "fields"), (WORDS, ((value, FIELDS[0][1]),), 0, "fields"),
                (WORDS, (("a", (value, None, FLAT, None)),), 0, "first"),
                (WORDS, (("a", ("off", value, FLAT, None)),), 0, "looks"),
                (WORDS, (("a", ("off", None, value, None)),), 0, "near"),
                (WORDS, (("a", ("off", None, (None, None, value), None)),), 0, "near"),
                (WORDS, (("a", ("off", None, FLAT, value)),), 0, "far"),
                (WORDS, (("a", ("off", None, FLAT, (None, None, value))),), 0, "far"),
                (WORDS, FIELDS, value, "room"),
            ):
                with self.assertRaises(InvalidForm) as caught:
                    Form(words, fields, room=room)
                self.assertEqual(caught.exception.part, told)
            self.assertRaises(UnknownField, form.parts_of, value)
            self.assertRaises(UnknownField, form.readers, value)
            self.assertRaises(UnknownField, form.with_table, value, value, value)
            self.assertRaises(InvalidTable, form.with_table, "a", value, value)
            self.assertRaises(InvalidForm, form.with_table, "a", "near", value)
            self.assertRaises(InvalidForm, form.with_room, value)


class EqualityTests(unittest.TestCase):
    def test_forms_of_equal_parts_are_equal(self):
        other = Form(tuple(list(WORDS)), copy.deepcopy(FIELDS), room=3)
        self.assertTrue(Form(WORDS, FIELDS) == other)
        self.assertFalse(Form(WORDS, FIELDS) != other)

    def test_each_part_changed_alone_makes_another_form(self):
        form = Form(WORDS, FIELDS)
        others = [
            Form(("off", "mid", "on"), FIELDS),
            Form(("off", "on", "mid"), (FIELDS[1], FIELDS[0], FIELDS[2])),
            Form(WORDS, FIELDS, room=2),
            Form(WORDS, FIELDS, room=1),
        ]
        for at in range(3):
            first, looks, near, far = FIELDS[at][1]
            near = ("m", *near[1:]) if looks is None else ((None, None, None), *near[1:])
            other_word = WORDS[WORDS.index(first) - 1]
            for part, value in ((0, other_word), (2, near), (3, ("m", "m", "m"))):
                fields = parts_of_a_form()["fields"]
                self.assertNotEqual(fields[at][1][part], value)
                fields[at][1][part] = value
                others.append(Form(WORDS, as_tuples(fields)))
        fields = parts_of_a_form()["fields"]
        fields[0][1][1] = "c"
        others.append(Form(WORDS, as_tuples(fields)))
        fields = parts_of_a_form()["fields"]
        fields[2][0] = "d"
        others.append(Form(WORDS, as_tuples(fields)))
        for other in others:
            with self.subTest((other.words, other.fields, other.room)):
                self.assertFalse(form == other)
                self.assertTrue(form != other)
                self.assertTrue(other == other)


class MethodTests(unittest.TestCase):
    def setUp(self):
        self.form = Form(WORDS, FIELDS, room=2)

    def test_field_names(self):
        self.assertEqual(self.form.field_names(), ("a", "b", "c"))
        self.assertEqual(Form(WORDS, (("z", FIELDS[1][1]), FIELDS[1])).field_names(), ("z", "b"))

    def test_parts_of(self):
        for name, field in FIELDS:
            self.assertEqual(self.form.parts_of(name), field)

    def test_readers(self):
        self.assertEqual([self.form.readers(name) for name in "abc"], [("c",), ("a",), ()])

    def test_readers_are_in_the_order_of_the_form(self):
        for names in itertools.permutations(("a", "b", "c")):
            fields = {"a": ("off", None, FLAT, None), "b": ("off", "a", SQUARE, None),
                      "c": ("off", "a", SQUARE, None)}
            form = Form(WORDS, tuple((name, fields[name]) for name in names))
            self.assertEqual(form.readers("a"), tuple(name for name in names if name != "a"))
            self.assertEqual(form.readers("b"), ())

    def test_unknown_fields_of_any_kind(self):
        for name in [*odd_values_but("a", "b", "c"), "off", "d", "A", "ab", ("a",), ["a"]]:
            for ask in (self.form.parts_of, self.form.readers):
                with self.assertRaises(UnknownField) as caught:
                    ask(name)
                self.assertIs(caught.exception.field, name)


class WithTableTests(unittest.TestCase):
    def setUp(self):
        self.form = Form(WORDS, FIELDS, room=2)

    def tearDown(self):
        self.assertTrue(self.form == Form(WORDS, FIELDS, room=2))

    def test_one_table_is_replaced(self):
        square = (FLAT, FLAT, FLAT)
        flat = ("one", "two", "three")
        for name, kind, table in (
            ("a", "near", square), ("a", "far", flat), ("b", "near", flat), ("b", "far", None),
            ("b", "far", flat), ("c", "near", square), ("c", "far", None), ("a", "far", None),
        ):
            with self.subTest(name, kind=kind, table=table):
                at = "abc".index(name)
                fields = parts_of_a_form()["fields"]
                fields[at][1][FIELD_PARTS.index(kind)] = table
                changed = self.form.with_table(name, kind, table)
                self.assertIsNot(changed, self.form)
                self.assertEqual(changed.fields, as_tuples(fields))
                self.assertEqual((changed.words, changed.room), (WORDS, 2))
                self.assertTrue(self.form == Form(WORDS, FIELDS, room=2))

    def test_the_same_table_gives_a_new_equal_form(self):
        changed = self.form.with_table("a", "near", SQUARE)
        self.assertIsNot(changed, self.form)
        self.assertTrue(changed == self.form)

    def test_wrong_tables(self):
        for at, name in enumerate("abc"):
            for kind, part in (("near", 2), ("far", 3)):
                for table in wrong_values(WORDS)[(at, part)]:
                    with self.assertRaises(InvalidForm) as caught:
                        self.form.with_table(name, kind, table)
                    self.assertEqual((caught.exception.part, caught.exception.field), (kind, name))

    def test_the_field_is_judged_first_and_then_the_kind(self):
        for name in odd_values_but("a", "b", "c"):
            for kind, table in (("near", FLAT), ([], 0), ("zzz", FLAT)):
                with self.assertRaises(UnknownField) as caught:
                    self.form.with_table(name, kind, table)
                self.assertIs(caught.exception.field, name)

    def test_kinds_of_any_kind(self):
        for kind in [*odd_values_but("near", "far"), "first", "looks", "Near", "nea", 2, ("near",)]:
            for table in (FLAT, None, 0):
                with self.assertRaises(InvalidTable) as caught:
                    self.form.with_table("b", kind, table)
                self.assertIs(caught.exception.kind, kind)


class WithRoomTests(unittest.TestCase):
    def test_the_room_is_replaced(self):
        form = Form(WORDS, FIELDS, room=2)
        for room in (1, 2, 3):
            changed = form.with_room(room)
            self.assertIsNot(changed, form)
            self.assertTrue(changed == Form(WORDS, FIELDS, room=room))
            self.assertEqual(form.room, 2)

    def test_wrong_rooms(self):
        form = example_form()
        for room in odd_values_but(1, 2, 3):
            with self.assertRaises(InvalidForm) as caught:
                form.with_room(room)
            self.assertEqual((caught.exception.part, caught.exception.field), ("room", ""))
        self.assertEqual(form.room, 3)


if __name__ == "__main__":
    unittest.main()
