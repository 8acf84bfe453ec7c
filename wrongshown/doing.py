"""Doing deeds: the standing behind a deed, and what happens in it, in order."""

from wrongshown.errors import InvalidDeed, InvalidStanding, TooManyAsked
from wrongshown.standings import all_closed, first_words, is_deed, is_standing, start_of
from wrongshown.truth import far_entry, has_far, near_of


class Step:
    """A deed that was done, or the start: the standings around it and its events."""

    def __init__(self, deed, before, after, events):
        self.deed = deed
        self.before = before
        self.after = after
        self.events = events


def begin(form, rule):
    """The Step of the start of a form under a rule."""
    return Step(None, None, start_of(form), ())


def step(form, rule, standing, deed):
    """The Step of a deed from a standing; both are any values."""
    if not is_standing(form, rule, standing):
        raise InvalidStanding()
    if not is_deed(form, deed):
        raise InvalidDeed(deed)
    return made_step(form, rule, standing, deed)


def made_step(form, rule, standing, deed):
    """The Step of a deed of the form from a standing, neither of which is judged again."""
    draft = Draft(form, rule, standing)
    do_deed(draft, deed)
    return Step(deed, standing, draft.result(), tuple(draft.events))


# A deed works on a draft of its own. So one that is refused half way leaves nothing behind.
class Draft:
    """A standing in the middle of a deed, and the events so far; fields go by their indexes."""

    def __init__(self, form, rule, standing):
        words, opened, errors, known, asked, waiting = standing
        self.form = form
        self.rule = rule
        self.names = form.field_names()
        self.words = list(words)
        self.opened = list(opened)
        self.shown = list(errors)
        self.known = list(known)
        self.asked = list(asked)
        self.waits = waiting
        self.events = []

    def result(self):
        """The standing as it is now."""
        return (
            tuple(self.words),
            tuple(self.opened),
            tuple(self.shown),
            tuple(self.known),
            tuple(self.asked),
            self.waits,
        )

    def open_up(self, at):
        """Make a field open."""
        if not self.opened[at]:
            self.opened[at] = True
            self.events.append(("opened", self.names[at]))

    def near_error(self, at):
        """The near entry of a field at the words of now."""
        return near_of(self.form, self.words, self.names[at])

    def check(self, at):
        """Check a field if it is open."""
        if not self.opened[at]:
            return
        error = self.near_error(at)
        asks = False
        if error is None and has_far(self.form, self.names[at]):
            if self.knows_word(at):
                error = self.known[at][1]
            else:
                asks = True
        self.shown[at] = error
        self.events.append(("checked", self.names[at], error))
        if asks:
            self.ask(self.names[at], self.words[at])

    def knows_word(self, at):
        """True if what is known of a field is about the word that it holds."""
        return self.known[at] is not None and self.known[at][0] == self.words[at]

    def ask(self, name, word):
        """Ask about a word, unless the newest question about the field is about it already."""
        question = (name, word, True)
        if question in self.asked:
            return
        if len(self.asked) >= self.form.room:
            raise TooManyAsked(name)
        elder = [(other, about, newest and other != name) for other, about, newest in self.asked]
        self.asked = [*elder, question]
        self.events.append(("asked", name, word))

    def check_with(self, at):
        """Check a field, and then the other fields that are checked with it."""
        self.check(at)
        for name in fields_with(self.form, self.rule, self.names[at]):
            self.check(self.names.index(name))

    def drop(self):
        """End the waiting, if the form waits."""
        if self.waits:
            self.waits = False
            self.events.append(("dropped",))

    def settle(self):
        """Decide what comes of a send, now that the fields show what they show."""
        if any([error is not None for error in self.shown]):
            self.events.append(("held",))
        elif self.asked == [] or self.rule.sending == "go":
            self.events.append(("sent", tuple(self.words)))
        elif self.rule.sending == "wait":
            self.waits = True
            self.events.append(("waits",))
        else:
            self.events.append(("held",))


def fields_with(form, rule, name):
    """The names of the other fields that are checked with a field, open or not."""
    if rule.around == "own":
        return ()
    if rule.around == "looks":
        return form.readers(name)
    return tuple([other for other in form.field_names() if (name, other) in rule.around])


def do_deed(draft, deed):
    """Do a deed of any kind."""
    kind = deed[0]
    if kind == "enter":
        do_enter(draft, draft.names.index(deed[1]), deed[2])
    elif kind == "leave":
        do_leave(draft, draft.names.index(deed[1]))
    elif kind == "send":
        do_send(draft)
    elif kind == "answer":
        do_answer(draft, deed[1])
    else:
        do_reset(draft)


def do_enter(draft, at, word):
    """Enter a word into a field."""
    if draft.words[at] == word:
        return
    draft.words[at] = word
    draft.events.append(("entered", draft.names[at], word))
    draft.drop()
    if draft.rule.opens == "enter":
        draft.open_up(at)
    if draft.rule.wipes and draft.shown[at] is not None:
        draft.shown[at] = None
        draft.events.append(("wiped", draft.names[at]))
    if draft.rule.checks == "enter":
        draft.check_with(at)


def do_leave(draft, at):
    """Leave a field."""
    if draft.rule.opens != "send":
        draft.open_up(at)
    draft.check_with(at)


def do_send(draft):
    """Send the form."""
    if draft.waits:
        return
    for at in range(len(draft.names)):
        draft.open_up(at)
    for at in range(len(draft.names)):
        draft.check(at)
    draft.settle()


def do_answer(draft, index):
    """Let the far house answer the question at an index."""
    if index >= len(draft.asked):
        return
    name, word, newest = draft.asked.pop(index)
    at = draft.names.index(name)
    answer = far_entry(draft.form, name, word)
    taken = is_taken(draft.rule, draft.words[at] == word, newest)
    draft.events.append(("answered", name, word, answer, taken))
    if taken:
        take(draft, at, word, answer)
    if draft.waits and draft.asked == []:
        draft.waits = False
        draft.settle()


def is_taken(rule, held, newest):
    """True if an answer is taken; held tells whether the field holds the word of the question."""
    if rule.taken == "same":
        return held
    if rule.taken == "last":
        return newest
    return True


def take(draft, at, word, answer):
    """Take an answer: keep it as known, and show it if the field may show it."""
    draft.known[at] = (word, answer)
    if not draft.opened[at]:
        return
    # Only "same" is sure that the answer is about the word of now, so only it minds what is near.
    if draft.rule.taken == "same" and draft.near_error(at) is not None:
        return
    draft.shown[at] = answer


def do_reset(draft):
    """Put the form back to its first words; what is known and asked stays."""
    draft.events.append(("reset",))
    draft.drop()
    draft.words = list(first_words(draft.form))
    draft.opened = list(all_closed(draft.form))
    draft.shown = [None for name in draft.names]
