"""Live forms: a form under a rule with the deeds that were done on it."""

from wrongshown.doing import begin, step
from wrongshown.errors import InvalidStanding, NothingToUndo, UnknownField, UnknownWord
from wrongshown.standings import is_standing


class Live:
    """A form under a rule that is filled in, deed by deed."""

    def __init__(self, form, rule, *, standing=None):
        if standing is not None and not is_standing(form, rule, standing):
            raise InvalidStanding()
        self.form = form
        self.rule = rule
        self.begun = begin(form, rule).after if standing is None else standing
        self.done = []

    @property
    def errors(self):
        """A dict of the fields that have an error and their errors."""
        shown = self.standing()[2]
        return {
            name: error for name, error in zip(self.form.field_names(), shown) if error is not None
        }

    @property
    def waiting(self):
        """True if the form waits to be sent."""
        return self.standing()[5]

    def perform(self, deed):
        """Do a deed, any value, and return its events."""
        made = step(self.form, self.rule, self.standing(), deed)
        self.done.append(made)
        return made.events

    def leave(self, name):
        """Leave a field and return the events."""
        if name not in self.form.field_names():
            raise UnknownField(name)
        return self.perform(("leave", name))

    def send(self):
        """Send the form and return the events."""
        return self.perform(("send",))

    def answer(self, k):
        """Let the question at the index k be answered and return the events."""
        return self.perform(("answer", k))

    def reset(self):
        """Reset the form and return the events."""
        return self.perform(("reset",))

    def __getitem__(self, at):
        for name, word in zip(self.form.field_names(), self.standing()[0]):
            if name == at:
                return word
        raise UnknownField(at)

    def __setitem__(self, at, worth):
        held = self[at]
        if worth not in self.form.words:
            raise UnknownWord(worth)
        if worth != held:
            self.perform(("enter", at, worth))

    def __contains__(self, x):
        return x in self.form.field_names()

    # Without it Python would try the indexes 0, 1 .. as names of fields.
    def __iter__(self):
        raise TypeError("a live form is not iterated over")

    def __iadd__(self, other):
        self.done.extend(self.steps_of(other))
        return self

    def trial(self, deeds):
        """The errors after each of some deeds, which are not kept."""
        return [made.after[2] for made in self.steps_of(deeds)]

    def steps_of(self, deeds):
        """A list of the Steps of some deeds, one after the other, from the standing now."""
        rows = []
        standing = self.standing()
        for deed in deeds:
            made = step(self.form, self.rule, standing, deed)
            rows.append(made)
            standing = made.after
        return rows

    def standing(self):
        """The standing now."""
        return self.done[-1].after if self.done else self.begun

    def last_events(self):
        """The events of the last deed, () if there is none."""
        return self.done[-1].events if self.done else ()

    def deeds_done(self):
        """A list of the deeds."""
        return [made.deed for made in self.done]

    def __len__(self):
        return len(self.done)

    def seen(self):
        """A list of the errors of all fields, at the beginning and after each deed."""
        return [self.begun[2]] + [made.after[2] for made in self.done]

    def sent(self):
        """A list of the words with which the form was sent, in order."""
        return [
            event[1] for made in self.done for event in made.events if event[0] == "sent"
        ]

    def undo(self):
        """Take the last deed back and return it."""
        if not self.done:
            raise NothingToUndo()
        return self.done.pop().deed

    def fork(self):
        """A live form of its own with the same beginning and the same deeds."""
        other = Live(self.form, self.rule, standing=self.begun)
        other.done = list(self.done)
        return other
