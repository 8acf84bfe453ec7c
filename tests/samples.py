"""Values of any kind, and forms that several tests use."""

from wrongshown.forms import Form
from wrongshown.rules import all_rules


def nested(depth, wrap):
    """None inside of depth wrappings."""
    value = None
    for _ in range(depth):
        value = wrap(value)
    return value


def odd_values():
    """Values of every kind that point 2 names; most of them are wrong wherever they are passed."""
    return [
        None, True, False,
        0, 1, 2, 3, 4, -1, 10 ** 30,
        "", "a", "z", "A", "off", "on", "own", "looks", "near", "far", "enter", "abcdefgh",
        "abcdefghi", "a b", "a\n", "\ta", "a1", "-", "a-b", "~", "`", "{", "@", "[", "x" * 100,
        (), (None,), ("off",), ("off", "on"), ("a", "b", "c"), ((), ()), (None, None),
        ((None, None), (None, None)), (0, 1), (True, False), ("off", None, (None, None), None),
        [], [None, None], ["off", "on"], [["a", "b"]],
        {}, {"off": "on"}, {"off": None, "on": None}, {0: 1},
        nested(20, lambda inner: (inner,)),
        nested(20, lambda inner: [inner]),
        nested(20, lambda inner: {"a": inner}),
        nested(60, lambda inner: (None, inner)),
    ]


def extreme_values():
    """Values that Python can neither write out nor compare nor copy."""
    return [
        10 ** 5000,
        -10 ** 5000,
        nested(20000, lambda inner: (inner,)),
        nested(20000, lambda inner: [inner]),
        nested(20000, lambda inner: {"a": inner}),
    ]


def same_kind_and_value(left, right):
    """Equality that tells flags from integers; only for flat values."""
    return type(left) is type(right) and left == right


def odd_values_but(*allowed):
    """The odd values without those that are allowed, flags and integers told apart."""
    return [
        value for value in odd_values()
        if not any(same_kind_and_value(value, good) for good in allowed)
    ]


def example_form():
    """The form of most examples of the document."""
    return Form(
        ("off", "on"),
        (
            ("a", ("off", None, (None, "m"), None)),
            ("b", ("off", "a", ((None, "x"), (None, None)), (None, "far"))),
        ),
    )


def two_far_form():
    """Two fields of one shape with far tables: off is right for both, on is wrong afar."""
    entries = ("off", None, (None, None), (None, "far"))
    return Form(("off", "on"), (("c", entries), ("d", entries)))


def lone_form():
    """One field: the word mid is wrong near, the words on and mid are wrong afar."""
    return Form(("off", "on", "mid"), (("f", ("off", None, (None, None, "m"), (None, "far", "low"))),))


def many_forms():
    """Forms of one to three fields, of two and three words, with and without far tables."""
    none, some = (None, None), (None, "g")
    wide = ((None, "x", None), ("y", None, None), (None, None, "z"))
    return [
        example_form(),
        two_far_form(),
        two_far_form().with_room(1),
        lone_form(),
        lone_form().with_room(1),
        Form(("on", "off"), (("a", ("off", "b", ((None, "m"), ("m", None)), some)),
                             ("b", ("on", "a", (("n", None), (None, None)), none))), room=2),
        Form(("off", "on"), (("c", ("off", "a", (none, (None, "p")), ("q", None))),
                             ("a", ("on", None, none, some)),
                             ("b", ("off", "a", (some, none), (None, "r")))), room=2),
        Form(("p", "q", "r"), (("q", ("r", "p", wide, (None, None, "s"))),
                               ("p", ("p", "r", wide, None)),
                               ("r", ("q", "q", wide, ("s", "t", None))))),
        Form(("off", "on"), (("a", ("off", "b", (some, none), None)),
                             ("b", ("on", None, ("w", None), None)))),
    ]


def many_rules():
    """All rules that are listed, and some whose part around are pairs."""
    arounds = [
        (), (("a", "b"),), (("b", "a"), ("c", "d")), (("a", "b"), ("a", "c"), ("b", "a"), ("z", "a")),
        (("d", "c"), ("q", "p"), ("r", "q"), ("p", "r"), ("p", "q"), ("c", "a"), ("b", "c")),
    ]
    rules = all_rules()
    for at, rule in enumerate(rule for rule in rules if rule.around == "own"):
        rules.append(rule.with_part("around", arounds[at % len(arounds)]))
    return rules


def standing_of(form, words, opened="", *, errors=None, known=None, asked=(), waiting=False):
    """A standing; the words and the names of the open fields stand in a text each."""
    names = form.field_names()
    return (
        tuple(words.split()),
        tuple(name in opened.split() for name in names),
        tuple((errors or {}).get(name) for name in names),
        tuple((known or {}).get(name) for name in names),
        tuple(asked),
        waiting,
    )


def any_standing(form, rule, dice):
    """A standing of any kind, most often one that no sequence of deeds reaches."""
    messages = [None, "m", "far", dice.choice("abcxyz") * 8]
    far = {name: parts[3] for name, parts in form.fields if parts[3] is not None}
    known = []
    for name in form.field_names():
        at = dice.randrange(len(form.words))
        pair = (form.words[at], far[name][at]) if name in far else None
        known.append(dice.choice([None, pair]))
    asked = tuple(
        (dice.choice(sorted(far)), dice.choice(form.words), dice.random() < 0.6)
        for _ in range(dice.randrange(form.room + 1) if far else 0)
    )
    return (
        tuple(dice.choice(form.words) for _ in known),
        tuple(dice.random() < 0.6 for _ in known),
        tuple(dice.choice(messages) if dice.random() < 0.5 else None for _ in known),
        tuple(known),
        asked,
        rule.sending == "wait" and asked != () and dice.random() < 0.6,
    )


def small_forms():
    """Forms of one to three fields and rooms 1 to 3 whose books have few standings."""
    none = (None, None)
    looking = (
        ("b", ("off", "a", ((None, "x"), ("y", None)), (None, "g"))),
        ("a", ("on", None, (None, "m"), None)),
    )
    return [
        Form(("off", "on"), (("f", ("off", None, ("m", None), None)),)),
        Form(("off", "on"), (("f", ("off", None, ("m", None), ("m", "n"))),), room=2),
        lone_form(),
        lone_form().with_room(1),
        Form(("off", "on"), (("a", ("off", "b", ((None, "g"), none), None)),
                             ("b", ("on", None, ("w", None), None)))),
        Form(("p", "q", "r"), (("x", ("p", "y", ((None, "m", None), ("m", None, None), (None, None, "n")), None)),
                               ("y", ("q", None, (None, "t", None), None))), room=2),
        example_form().with_room(1),
        two_far_form().with_room(1),
        Form(("on", "off"), looking, room=1),
        Form(("off", "on"), (("c", ("off", "a", ((None, "p"), none), None)),
                             ("a", ("on", None, (None, "q"), None)),
                             ("b", ("off", "c", (("r", None), none), None)))),
        Form(("off", "on"), (("c", ("off", "a", ((None, "p"), none), None)),
                             ("a", ("on", None, none, None)),
                             ("b", ("off", "c", (none, (None, "s")), (None, "s")))), room=1),
    ]
