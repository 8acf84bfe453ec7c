"""Values of any kind, and forms that several tests use."""

from wrongshown.forms import Form


def nested(depth, wrap):
    """None inside of depth wrappings."""
    value = None
    for _ in range(depth):
        value = wrap(value)
    return value


def odd_values():
    """Values of every kind that point 2 names; most of them are wrong wherever they are passed."""
    return [
        None, True, False,
        0, 1, 2, 3, 4, -1, 10 ** 30,
        "", "a", "z", "A", "off", "on", "own", "looks", "near", "far", "enter", "abcdefgh",
        "abcdefghi", "a b", "a\n", "\ta", "a1", "-", "a-b", "~", "`", "{", "@", "[", "x" * 100,
        (), (None,), ("off",), ("off", "on"), ("a", "b", "c"), ((), ()), (None, None),
        ((None, None), (None, None)), (0, 1), (True, False), ("off", None, (None, None), None),
        [], [None, None], ["off", "on"], [["a", "b"]],
        {}, {"off": "on"}, {"off": None, "on": None}, {0: 1},
        nested(20, lambda inner: (inner,)),
        nested(20, lambda inner: [inner]),
        nested(20, lambda inner: {"a": inner}),
        nested(60, lambda inner: (None, inner)),
    ]


def extreme_values():
    """Values that Python can neither write out nor compare nor copy."""
    return [
        10 ** 5000,
        -10 ** 5000,
        nested(20000, lambda inner: (inner,)),
        nested(20000, lambda inner: [inner]),
        nested(20000, lambda inner: {"a": inner}),
    ]


def same_kind_and_value(left, right):
    """Equality that tells flags from integers; only for flat values."""
    return type(left) is type(right) and left == right


def odd_values_but(*allowed):
    """The odd values without those that are allowed, flags and integers told apart."""
    return [
        value for value in odd_values()
        if not any(same_kind_and_value(value, good) for good in allowed)
    ]


def example_form():
    """The form of most examples of the document."""
    return Form(
        ("off", "on"),
        (
            ("a", ("off", None, (None, "m"), None)),
            ("b", ("off", "a", ((None, "x"), (None, None)), (None, "far"))),
        ),
    )
