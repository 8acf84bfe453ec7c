"""Forms and lists of deeds as texts, one line for each part or deed."""

from wrongshown.errors import InvalidText
from wrongshown.forms import Form
from wrongshown.plain import is_name

DIGITS = ("0", "1", "2")
# What may stand directly after a line; "" is the beginning. "nears" stands for a near line of a
# field that looks at another one: more of them may follow.
FOLLOWERS = {
    "": ("words",),
    "words": ("room",),
    "room": ("field",),
    "field": ("first",),
    "first": ("alone", "looks"),
    "alone": ("near",),
    "looks": ("near",),
    "near": ("far", "field"),
    "nears": ("near", "far", "field"),
    "far": ("field",),
}
# How many names stand in the line of a deed.
NAMES_IN_DEED = {"enter": 2, "leave": 1, "send": 0, "reset": 0}


def format_form(form):
    """The text of a form."""
    rows = [["words", *form.words], ["room", str(form.room)]]
    for name, field in form.fields:
        rows.extend(field_rows(name, field))
    return text_of(rows)


def field_rows(name, field):
    """The words of each line of a field."""
    first, looks, near, far = field
    rows = [["field", name], ["first", first]]
    if looks is None:
        rows.append(["alone"])
        rows.append(entry_row("near", near))
    else:
        rows.append(["looks", looks])
        rows.extend([entry_row("near", entries) for entries in near])
    if far is not None:
        rows.append(entry_row("far", far))
    return rows


def entry_row(head, entries):
    """The words of a line of a table."""
    return [head] + ["-" if entry is None else entry for entry in entries]


def text_of(rows):
    """The text of some lines, each of which is given by its words."""
    return "".join([" ".join(row) + "\n" for row in rows])


def parse_form(text):
    """The form that a text tells."""
    rows = form_rows(text)
    words, room, *rest = rows
    fields = [field_of(block) for block in field_blocks(rest)]
    return Form(tuple(words[1:]), tuple(fields), room=int(room[1]))


def form_rows(text):
    """The words of each line of the text of a form; refuses a line that is not allowed."""
    rows = rows_of(text)
    state = ""
    for number, row in enumerate(rows, 1):
        if row[0] not in FOLLOWERS[state] or not is_form_row(row):
            raise InvalidText(number)
        state = "nears" if row[0] == "near" and state in ("looks", "nears") else row[0]
    if state not in ("room", "near", "nears", "far"):
        raise InvalidText(len(rows) + 1)
    return rows


def rows_of(text):
    """The words of each line of a text; refuses a text that does not end with a line."""
    if not text.endswith("\n"):
        raise InvalidText(0)
    return [line.split(" ") for line in text.split("\n")[:-1]]


def is_form_row(row):
    """True if a line of the text of a form has one of its forms, wherever it stands."""
    head, *rest = row
    if head == "words":
        return rest != [] and all([is_name(word) for word in rest])
    if head in ("near", "far"):
        return rest != [] and all([word == "-" or is_name(word) for word in rest])
    if head == "room":
        return rest in (["1"], ["2"], ["3"])
    if head == "alone":
        return rest == []
    return len(rest) == 1 and is_name(rest[0])


def field_blocks(rows):
    """The lines of a form behind its room, in one list for each field."""
    blocks = []
    for row in rows:
        if row[0] == "field":
            blocks.append([])
        blocks[-1].append(row)
    return blocks


def field_of(block):
    """The name of a field and the field that its lines tell."""
    name, first, looks, *tables = block
    near = [entries_of(row) for row in tables if row[0] == "near"]
    far = [entries_of(row) for row in tables if row[0] == "far"]
    alone = looks == ["alone"]
    return (name[1], (
        first[1],
        None if alone else looks[1],
        near[0] if alone else tuple(near),
        far[0] if far else None,
    ))


def entries_of(row):
    """The entries that a line of a table tells."""
    return tuple([None if word == "-" else word for word in row[1:]])


def format_deeds(deeds):
    """The text of a list of deeds."""
    return text_of([[str(part) for part in deed] for deed in deeds])


def parse_deeds(text):
    """The list of deeds that a text tells."""
    rows = rows_of(text) if text else []
    for number, row in enumerate(rows, 1):
        if not is_deed_row(row):
            raise InvalidText(number)
    return [deed_of(row) for row in rows]


def is_deed_row(row):
    """True if a line tells a deed."""
    head, *rest = row
    if head == "answer":
        return len(rest) == 1 and rest[0] in DIGITS
    if head not in NAMES_IN_DEED:
        return False
    return len(rest) == NAMES_IN_DEED[head] and all([is_name(word) for word in rest])


def deed_of(row):
    """The deed that a line tells."""
    if row[0] == "answer":
        return ("answer", DIGITS.index(row[1]))
    return tuple(row)
