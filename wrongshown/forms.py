"""Forms: the words, the fields with their tables, and the room for questions."""

from wrongshown.errors import InvalidForm, InvalidTable, UnknownField
from wrongshown.plain import are_names, has_items, is_name, is_whole


class Form:
    """An immutable form; its parts are plain tuples and a number."""

    def __init__(self, words, fields, *, room=3):
        check_parts(words, fields, room)
        self.words = words
        self.fields = fields
        self.room = room
        # Kept beside the parts because each deed asks for the names many times.
        self.names = tuple(names_of(fields))

    def __eq__(self, other):
        return (
            isinstance(other, Form)
            and self.words == other.words
            and self.fields == other.fields
            and self.room == other.room
        )

    def field_names(self):
        """The names of the fields in order."""
        return self.names

    def parts_of(self, name):
        """The tuple (first, looks, near, far) of a field."""
        for own, field in self.fields:
            if own == name:
                return field
        raise UnknownField(name)

    def readers(self, name):
        """The names of the fields that look at a field, in the order of the form."""
        if name not in self.field_names():
            raise UnknownField(name)
        return tuple([own for own, (first, looks, near, far) in self.fields if looks == name])

    def with_table(self, name, kind, table):
        """A new form in which the near or the far table of a field is another one."""
        if name not in self.field_names():
            raise UnknownField(name)
        if kind not in ("near", "far"):
            raise InvalidTable(kind)
        pairs = []
        for own, field in self.fields:
            pairs.append((own, changed_field(field, kind, table) if own == name else field))
        return Form(self.words, tuple(pairs), room=self.room)

    def with_room(self, room):
        """A new form with another room."""
        return Form(self.words, self.fields, room=room)


def names_of(fields):
    """A list of the names of fields."""
    return [name for name, field in fields]


def changed_field(field, kind, table):
    """The parts of a field with one table replaced."""
    first, looks, near, far = field
    if kind == "near":
        return (first, looks, table, far)
    return (first, looks, near, table)


def check_parts(words, fields, room):
    """Refuse the first of the parts of a form that is not allowed."""
    if not are_form_words(words):
        raise InvalidForm("words", "")
    if not are_form_fields(fields):
        raise InvalidForm("fields", "")
    for name, field in fields:
        part = wrong_part(words, names_of(fields), name, field)
        if part is not None:
            raise InvalidForm(part, name)
    if not is_whole(room, 1, 3):
        raise InvalidForm("room", "")


def are_form_words(value):
    """True for a tuple of 2 or 3 different names."""
    return isinstance(value, tuple) and 2 <= len(value) <= 3 and are_names(value)


def are_form_fields(value):
    """True for 1 to 3 named tuples of four parts; the parts themselves are not looked at."""
    if not isinstance(value, tuple) or not 1 <= len(value) <= 3:
        return False
    if not all([has_items(pair, 2) for pair in value]):
        return False
    return are_names(names_of(value)) and all([has_items(field, 4) for name, field in value])


def wrong_part(words, names, name, field):
    """The first part of a field that is not allowed, or None if all of them are."""
    first, looks, near, far = field
    if first not in words:
        return "first"
    if looks is not None and (looks == name or looks not in names):
        return "looks"
    if not is_near(near, looks, len(words)):
        return "near"
    if far is not None and not is_entry_row(far, len(words)):
        return "far"
    return None


def is_near(value, looks, count):
    """True for a near table over count words of a field that looks where looks says."""
    if looks is None:
        return is_entry_row(value, count)
    return has_items(value, count) and all([is_entry_row(row, count) for row in value])


def is_entry_row(value, count):
    """True for a tuple of count entries: each one is None or a message."""
    return has_items(value, count) and all([entry is None or is_name(entry) for entry in value])
