"""Standings and deeds: which values are ones, the start, and the deeds that books use."""

from wrongshown.plain import has_items, is_name, is_whole
from wrongshown.truth import are_words, has_far


def is_standing(form, rule, value):
    """True if a value, any value, is a standing of the form under the rule."""
    if not has_items(value, 6):
        return False
    words, opened, errors, known, asked, waiting = value
    return (
        are_words(form, words)
        and are_flags(form, opened)
        and are_errors(form, errors)
        and are_known(form, known)
        and are_questions(form, asked)
        and may_wait(rule, asked, waiting)
    )


def is_deed(form, value):
    """True if a value, any value, is a deed of the form."""
    if has_items(value, 1):
        return value[0] in ("send", "reset")
    if has_items(value, 2) and value[0] == "leave":
        return value[1] in form.field_names()
    if has_items(value, 2) and value[0] == "answer":
        return is_whole(value[1], 0, 2)
    if has_items(value, 3) and value[0] == "enter":
        return value[1] in form.field_names() and value[2] in form.words
    return False


def deeds(form, *, resets=True):
    """A list of the deeds that books use, in their order."""
    names = form.field_names()
    rows = [("enter", name, word) for name in names for word in form.words]
    rows.extend([("leave", name) for name in names])
    rows.append(("send",))
    rows.extend([("answer", index) for index in range(3)])
    if resets:
        rows.append(("reset",))
    return rows


def start_of(form):
    """The standing in which a form begins."""
    nothing = tuple([None for name in form.field_names()])
    return (first_words(form), all_closed(form), nothing, nothing, (), False)


def first_words(form):
    """The first words of the fields, in the order of the form."""
    return tuple([first for name, (first, looks, near, far) in form.fields])


def all_closed(form):
    """The flags of a form of which no field is open."""
    return tuple([False for name in form.field_names()])


def is_at_rest(standing):
    """True if nothing is asked and the form does not wait."""
    words, opened, errors, known, asked, waiting = standing
    return asked == () and not waiting


def are_flags(form, value):
    """True for a tuple with a flag for each field."""
    return has_items(value, len(form.fields)) and all([isinstance(flag, bool) for flag in value])


def are_errors(form, value):
    """True for a tuple with an error for each field: None or a name."""
    if not has_items(value, len(form.fields)):
        return False
    return all([error is None or is_name(error) for error in value])


def are_known(form, value):
    """True for a tuple with what may be known of each field."""
    if not has_items(value, len(form.fields)):
        return False
    return all([is_known(form, name, item) for name, item in zip(form.field_names(), value)])


def is_known(form, name, value):
    """True for None, or for a word of a field with a far table with the answer to it."""
    if value is None:
        return True
    first, looks, near, far = form.parts_of(name)
    return far is not None and value in list(zip(form.words, far))


def are_questions(form, value):
    """True for a tuple of questions for which there is room."""
    if not isinstance(value, tuple) or len(value) > form.room:
        return False
    return all([is_question(form, question) for question in value])


def is_question(form, value):
    """True for a field with a far table, a word and a flag."""
    if not has_items(value, 3):
        return False
    name, word, newest = value
    if name not in form.field_names() or not has_far(form, name):
        return False
    return word in form.words and isinstance(newest, bool)


def may_wait(rule, asked, value):
    """True for False, and for True if the rule lets a form wait and something is asked."""
    if not isinstance(value, bool):
        return False
    return not value or (rule.sending == "wait" and asked != ())
