"""What is right and wrong at given words, whatever a form shows of it."""

from wrongshown.errors import InvalidWords, UnknownWord
from wrongshown.plain import has_items


def near_entry(form, words, name):
    """The entry of the near table of a field at given words."""
    check_words(form, words)
    return near_of(form, words, name)


def far_entry(form, name, word):
    """The entry of the far table of a field for a word, None if there is no far table."""
    first, looks, near, far = form.parts_of(name)
    if word not in form.words:
        raise UnknownWord(word)
    if far is None:
        return None
    return far[form.words.index(word)]


def true_error(form, words, name):
    """The near entry of a field at given words if it is a message, otherwise the far entry."""
    check_words(form, words)
    return true_of(form, words, name)


def true_errors(form, words):
    """The true error of each field at given words, in the order of the form."""
    check_words(form, words)
    return tuple([true_of(form, words, name) for name in form.field_names()])


def near_of(form, words, name):
    """The near entry of a field at words that are not judged again."""
    first, looks, near, far = form.parts_of(name)
    entry = near[word_index(form, words, name)]
    if looks is None:
        return entry
    return entry[word_index(form, words, looks)]


def true_of(form, words, name):
    """The true error of a field at words that are not judged again."""
    entry = near_of(form, words, name)
    if entry is not None:
        return entry
    return far_entry(form, name, words[form.field_names().index(name)])


def has_far(form, name):
    """True if a field has a far table, so that the far house can be asked about it."""
    first, looks, near, far = form.parts_of(name)
    return far is not None


def are_words(form, value):
    """True for a tuple with one word of the form for each field; the value is any value."""
    return has_items(value, len(form.fields)) and all([word in form.words for word in value])


def check_words(form, words):
    """Refuse any value that is not a tuple with one word of the form for each field."""
    if not are_words(form, words):
        raise InvalidWords(words)


def word_index(form, words, name):
    """The index, in the words of the form, of the word that a field holds."""
    return form.words.index(words[form.field_names().index(name)])
