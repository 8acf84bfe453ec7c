"""Which fields have to be checked with which others."""

from wrongshown.books import fault_kinds
from wrongshown.guards import MOST_STANDINGS, check_bound, check_kinds
from wrongshown.picks import picks


def needed(form):
    """A list of the pairs (f, g) such that what is right for g depends on f, in ascending order."""
    return [(first, second) for first, second in possible_pairs(form) if depends(form, second, first)]


def possible_pairs(form):
    """A list of the pairs of two different fields, in ascending order."""
    names = sorted(form.field_names())
    return [(first, second) for first in names for second in names if first != second]


def depends(form, name, other):
    """True if a field looks at another one, and an entry differs for two words of that one."""
    first, looks, near, far = form.parts_of(name)
    return looks == other and any([len(set(entries)) > 1 for entries in near])


def least_pairs(form, rule, kinds, *, resets=True, limit=2000):
    """A list of all sets of the fewest pairs that keep the form free of some kinds of faults."""
    check_bound(limit, MOST_STANDINGS)
    check_kinds(kinds)
    possible = possible_pairs(form)
    for count in range(len(possible) + 1):
        # All sets of a size are tried, as each of them may exceed the limit.
        serving = [
            pairs for pairs in picks(possible, count)
            if serves(form, rule.with_part("around", pairs), kinds, resets, limit)
        ]
        if serving:
            return serving
    return []


def serves(form, rule, kinds, resets, limit):
    """True if the book of a form under a rule has no fault of any of some kinds."""
    return not any([kind in kinds for kind in fault_kinds(form, rule, resets, limit)])
