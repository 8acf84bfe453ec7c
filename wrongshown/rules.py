"""Rules: when a form opens fields, checks them, takes answers and is sent."""

from wrongshown.errors import InvalidRule
from wrongshown.plain import are_names, has_items

PARTS = ("opens", "checks", "around", "wipes", "taken", "sending")
# The values of a part that all_rules goes through, in its order. Only around may be another one.
CHOICES = {
    "opens": ("enter", "leave", "send"),
    "checks": ("enter", "leave"),
    "around": ("own", "looks"),
    "wipes": (False, True),
    "taken": ("any", "same", "last"),
    "sending": ("bar", "wait", "go"),
}
WIPES_WORDS = {"wipes": True, "keeps": False}


class Rule:
    """An immutable rule of six parts."""

    def __init__(self, opens, checks, around, *, wipes=False, taken="same", sending="wait"):
        part = wrong_part((opens, checks, around, wipes, taken, sending))
        if part is not None:
            raise InvalidRule(part)
        self.opens = opens
        self.checks = checks
        self.around = tuple(sorted(around)) if isinstance(around, tuple) else around
        self.wipes = wipes
        self.taken = taken
        self.sending = sending

    def __eq__(self, other):
        return (
            isinstance(other, Rule)
            and self.opens == other.opens
            and self.checks == other.checks
            and self.around == other.around
            and self.wipes == other.wipes
            and self.taken == other.taken
            and self.sending == other.sending
        )

    def __str__(self):
        return " ".join([
            self.opens,
            self.checks,
            around_word(self.around),
            "wipes" if self.wipes else "keeps",
            self.taken,
            self.sending,
        ])

    def with_part(self, part, value):
        """A new rule in which one part has another value."""
        if part not in PARTS:
            raise InvalidRule(part)
        held = (self.opens, self.checks, self.around, self.wipes, self.taken, self.sending)
        values = [value if own == part else kept for own, kept in zip(PARTS, held)]
        opens, checks, around, wipes, taken, sending = values
        return Rule(opens, checks, around, wipes=wipes, taken=taken, sending=sending)

    @classmethod
    def named(cls, text):
        """The rule that is written with this text."""
        values = values_of(text)
        if values is None or wrong_part(values) is not None:
            raise InvalidRule("text")
        opens, checks, around, wipes, taken, sending = values
        rule = cls(opens, checks, around, wipes=wipes, taken=taken, sending=sending)
        # A text whose pairs are not in ascending order is read, but it names no rule.
        if str(rule) != text:
            raise InvalidRule("text")
        return rule


def all_rules():
    """A list of the rules whose part around is "own" or "looks"."""
    return [
        Rule(opens, checks, around, wipes=wipes, taken=taken, sending=sending)
        for opens in CHOICES["opens"]
        for checks in CHOICES["checks"]
        for around in CHOICES["around"]
        for wipes in CHOICES["wipes"]
        for taken in CHOICES["taken"]
        for sending in CHOICES["sending"]
    ]


def wrong_part(values):
    """The first of the parts whose value, any value, is not allowed, or None if all are."""
    for part, value in zip(PARTS, values):
        if not is_allowed(part, value):
            return part
    return None


def is_allowed(part, value):
    """True if one of the parts may have the value, which is any value."""
    if part == "around" and isinstance(value, tuple):
        return are_pairs(value)
    # 0 and 1 are equal to flags, so they would be found among the choices.
    if part == "wipes":
        return isinstance(value, bool)
    return value in CHOICES[part]


def are_pairs(values):
    """True for different pairs of two different names each."""
    if not all([has_items(pair, 2) and are_names(pair) for pair in values]):
        return False
    return len(set(values)) == len(values)


def around_word(around):
    """The word for the part around of a rule."""
    if isinstance(around, str):
        return around
    if around == ():
        return "/"
    return ",".join([f"{first}/{second}" for first, second in around])


def around_of(word):
    """What a word for the part around stands for, not judged yet."""
    if word in CHOICES["around"]:
        return word
    if word == "/":
        return ()
    return tuple([tuple(pair.split("/")) for pair in word.split(",")])


def values_of(text):
    """The values of the six parts that a text, any value, tells, not judged yet, or None."""
    if not isinstance(text, str):
        return None
    words = text.split(" ")
    if len(words) != len(PARTS):
        return None
    opens, checks, around, wipes, taken, sending = words
    return (opens, checks, around_of(around), WIPES_WORDS.get(wipes), taken, sending)
