"""Refusals of wrong arguments that several modules share."""

from wrongshown.errors import InvalidBound, InvalidKind, InvalidRules
from wrongshown.judge import KINDS
from wrongshown.plain import is_whole

MOST_STANDINGS = 10000


def check_bound(value, most):
    """Refuse any value that is not an integer from 1 to most."""
    if not is_whole(value, 1, most):
        raise InvalidBound(value)


def check_kinds(kinds):
    """Refuse the first of some strings that is no kind of fault."""
    for kind in kinds:
        if kind not in KINDS:
            raise InvalidKind(kind)


def check_rules(rules):
    """Refuse a list or tuple that does not have 1 to 6 items."""
    if not 1 <= len(rules) <= 6:
        raise InvalidRules()
