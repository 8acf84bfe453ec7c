"""A second way of doing what points 30 to 45 say, for the tests to compare the program with.

It goes through runs in their order, keeps each run as it is, and uses nothing of the package but
the attributes of a form and of a rule.
"""

import functools
import itertools

import plainway
from samples import many_rules, small_forms

REFUSED = "refused"


class PlainBook:
    """The standings that runs lead to, with their least runs, in order."""

    def __init__(self, form, rule, resets=True):
        self.form = form
        self.rule = rule
        self.resets = resets
        self.moves = plainway.deeds(form, resets)
        self.known = {}

    @functools.cached_property
    def runs(self):
        """A dict of the standings and their least runs, in order."""
        runs = {plainway.start(self.form): ()}
        layer = list(runs)
        while layer:
            following = []
            for standing in layer:
                for deed in self.moves:
                    after = self.behind(standing, deed)
                    if after not in runs:
                        runs[after] = runs[standing] + (deed,)
                        following.append(after)
            layer = following
        return runs

    @functools.cached_property
    def standings(self):
        return list(self.runs)

    def outcome(self, standing, deed):
        """(standing, events, faults) of a deed; the events of a deed that is refused are a word."""
        if (standing, deed) not in self.known:
            try:
                after, events = plainway.done(self.form, self.rule, standing, deed)
                wrong = plainway.faults(self.form, after, events)
            except plainway.Refused as refusal:
                after, events, wrong = standing, REFUSED, [("full", refusal.field)]
            self.known[standing, deed] = (after, events, wrong)
        return self.known[standing, deed]

    def behind(self, standing, deed):
        return self.outcome(standing, deed)[0]

    def is_refused(self, standing, deed):
        return self.outcome(standing, deed)[1] == REFUSED

    def sent(self, standing, deed):
        """The sent words of a deed, or None."""
        for event in self.outcome(standing, deed)[1]:
            if event[0] == "sent":
                return event[1]
        return None

    def is_stuck(self, standing):
        words = dict(zip(plainway.names_of(self.form), standing[0]))
        if any(plainway.truth(self.form, words, name) for name in words):
            return False
        quiet = [deed for deed in self.moves if deed[0] in ("send", "answer", "leave")]
        found = [standing]
        for now in found:
            for deed in quiet:
                if self.sent(now, deed) is not None:
                    return False
                if self.behind(now, deed) not in found:
                    found.append(self.behind(now, deed))
        return True

    def stuck(self):
        return [standing for standing in self.standings if self.is_stuck(standing)]

    def faults(self):
        """A dict of the faults and their least runs, in order."""
        found = {}
        for standing, run in self.runs.items():
            for deed in self.moves:
                for pair in self.outcome(standing, deed)[2]:
                    found.setdefault(pair, run + (deed,))
        if self.stuck():
            found["stuck", ""] = self.runs[self.stuck()[0]]
        return {pair: found[pair] for pair in sorted(found, key=self.fault_place)}

    def fault_place(self, pair):
        names = plainway.names_of(self.form) + [""]
        return plainway.KINDS.index(pair[0]), names.index(pair[1])

    def kinds(self):
        return {kind for kind, field in self.faults()}

    def between(self, first, second):
        """The least tuple of deeds from one standing to another, None if there is none."""
        paths = {first: ()}
        todo = [first]
        for standing in todo:
            for deed in self.moves:
                after = self.behind(standing, deed)
                if after not in paths:
                    paths[after] = paths[standing] + (deed,)
                    todo.append(after)
        return paths.get(second)

    def parting(self, first, second):
        """The least tuple of deeds that shows a difference between two standings, or None."""
        if looks(first) != looks(second):
            return ()
        return race(self, self, first, second, None)[1]


PLAIN_BOOKS = {}


def plain_book(form, rule, resets=True):
    """A PlainBook; the same one for equal forms and rules, as it keeps what it worked out."""
    key = (form.words, form.fields, form.room, str(rule), resets)
    if key not in PLAIN_BOOKS:
        PLAIN_BOOKS[key] = PlainBook(form, rule, resets)
    return PLAIN_BOOKS[key]


def runs_up_to(moves, length):
    """All runs of at most length deeds, in their order."""
    for many in range(length + 1):
        yield from itertools.product(moves, repeat=many)


def looks(standing):
    return standing[1], standing[2]


def race(left, right, first, second, most):
    """The tuples that runs without a difference lead to, and the least run with one, or None.

    If there are more tuples than most ahead of that run, the first item is None.
    """
    paths = {(first, second): ()}
    todo = list(paths)
    for pair in todo:
        for deed in left.moves:
            run = paths[pair] + (deed,)
            refused = [left.is_refused(pair[0], deed), right.is_refused(pair[1], deed)]
            if all(refused):
                continue
            after = (left.behind(pair[0], deed), right.behind(pair[1], deed))
            if any(refused) or looks(after[0]) != looks(after[1]):
                return todo, run
            if left.sent(pair[0], deed) != right.sent(pair[1], deed):
                return todo, run
            if after not in paths:
                if len(paths) == most:
                    return None, None
                paths[after] = run
                todo.append(after)
    return todo, None


def compared(left, right, most=None):
    """What race returns for the starts of two books."""
    return race(left, right, plainway.start(left.form), plainway.start(right.form), most)


def side_by_side(left, right, rows):
    """These tuples of two standings, and all to which deeds lead from them."""
    found = list(rows)
    for first, second in found:
        for deed in left.moves:
            after = (left.behind(first, deed), right.behind(second, deed))
            if after not in found:
                found.append(after)
    return found


def subsets(rows, count):
    return list(itertools.combinations(rows, count))


@functools.lru_cache(maxsize=None)
def cases():
    """Plain books of small forms, each under rules of every kind, with and without resets."""
    rules = many_rules()
    found = []
    for number, form in enumerate(small_forms()):
        for turn in range(8):
            rule = rules[(number * 37 + turn * 83) % len(rules)]
            found.append(plain_book(form, rule, turn % 3 != 1))
    return found
