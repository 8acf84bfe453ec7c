"""Desks: a form that is edited, and what its books say under several rules."""

from wrongshown.books import Book
from wrongshown.errors import InvalidTable, LimitExceeded, NothingToRedo, NothingToUndo
from wrongshown.guards import MOST_STANDINGS, check_bound, check_kinds, check_rules
from wrongshown.judge import KINDS


class Desk:
    """A form with its edits, some rules and the kinds of faults that are watched."""

    def __init__(self, form, rules, *, resets=True, limit=2000):
        check_bound(limit, MOST_STANDINGS)
        check_rules(rules)
        self.current = form
        self.watched = ()
        self.bound = limit
        self.rules = tuple(rules)
        self.resets = resets
        self.past = []
        self.ahead = []

    def set_bound(self, value):
        """Set the limit of the books, any value."""
        check_bound(value, MOST_STANDINGS)
        self.bound = value

    def __ior__(self, other):
        check_kinds([other])
        self.watched = tuple([kind for kind in KINDS if kind in self.watched or kind == other])
        return self

    def __isub__(self, other):
        check_kinds([other])
        self.watched = tuple([kind for kind in self.watched if kind != other])
        return self

    def __getitem__(self, at):
        field, kind = at
        first, looks, near, far = self.current.parts_of(field)
        if kind not in ("near", "far"):
            raise InvalidTable(kind)
        return near if kind == "near" else far

    def __setitem__(self, at, worth):
        field, kind = at
        self.put_form(self.current.with_table(field, kind, worth))

    # Without it Python would try the indexes 0, 1 .. as fields and kinds.
    def __iter__(self):
        raise TypeError("a desk is not iterated over")

    def put_form(self, form):
        """Replace the form by another one."""
        self.past.append(self.current)
        self.ahead = []
        self.current = form

    def __len__(self):
        return len(self.past)

    def undo(self):
        """Take back the last edit."""
        if not self.past:
            raise NothingToUndo()
        self.ahead.append(self.current)
        self.current = self.past.pop()

    def redo(self):
        """Do the edit again that was undone last."""
        if not self.ahead:
            raise NothingToRedo()
        self.past.append(self.current)
        self.current = self.ahead.pop()

    def verdicts(self):
        """A list with the Verdict over the watched kinds for each rule, None behind the bound."""
        return self.verdicts_of(self.current)

    def verdicts_of(self, form):
        """What verdicts returns if this is the form."""
        return [
            watched_verdict(form, rule, self.resets, self.bound, self.watched)
            for rule in self.rules
        ]

    def attempt(self, edits):
        """What verdicts returns behind some edits, which are not kept."""
        form = self.current
        for field, kind, table in edits:
            form = form.with_table(field, kind, table)
        return self.verdicts_of(form)


def watched_verdict(form, rule, resets, limit, kinds):
    """The Verdict of a book with the pairs of some kinds alone, None for more standings than limit."""
    try:
        book = Book(form, rule, resets=resets, limit=limit)
    except LimitExceeded:
        return None
    return book.verdict().only(kinds)
