"""Counts over a book: what is asked, taken, shown and sent in it."""

from wrongshown.errors import UnknownField
from wrongshown.graphs import tried
from wrongshown.truth import has_far


def most_asked(book):
    """The greatest number of questions in a standing, and the least run to one with that many."""
    counts = [len(standing[4]) for standing in book.standings()]
    count = max(counts)
    return (count, book.graph.trail.run_to(counts.index(count)))


def never_taken(book):
    """A list of the pairs (field, word) with a far entry that no deed of the book takes."""
    taken = taken_words(book)
    return [
        (name, word)
        for name in book.form.field_names() if has_far(book.form, name)
        for word in book.form.words if (name, word) not in taken
    ]


def taken_words(book):
    """A dict with the pairs (field, word) whose answers deeds of the book take."""
    found = {}
    answers = [deed for deed in book.moves() if deed[0] == "answer"]
    for standing in book.standings():
        for deed in answers:
            made, refused = tried(book.form, book.rule, standing, deed)
            for event in made.events:
                if event[0] == "answered" and event[4]:
                    found[event[1], event[2]] = True
    return found


def least_shown(book, field, message):
    """The least run that leads to a standing in which a field shows a message, or None."""
    if field not in book.form.field_names():
        raise UnknownField(field)
    column = book.form.field_names().index(field)
    for at, standing in enumerate(book.standings()):
        if standing[2][column] == message:
            return book.graph.trail.run_to(at)
    return None


def least_sent(book):
    """The least run whose last deed sends the form, or None."""
    for at, sends in enumerate(book.graph.sends):
        for deed, sent in zip(book.graph.ways, sends):
            if sent:
                return book.graph.run_of((at, deed))
    return None
