"""Verdicts: sets of faults without a form."""

from wrongshown.guards import check_kinds
from wrongshown.judge import KINDS


class Verdict:
    """An immutable set of pairs (kind, field), kept in their order."""

    def __init__(self, pairs):
        check_kinds([kind for kind, field in pairs])
        self.rows = in_order(pairs)

    def pairs(self):
        """A list of the pairs by the order of KINDS, and then by the field."""
        return list(self.rows)

    def kinds(self):
        """A list of the kinds of the pairs, in the order of KINDS."""
        held = [kind for kind, field in self.rows]
        return [kind for kind in KINDS if kind in held]

    def only(self, kinds):
        """A new verdict with the pairs of some kinds alone."""
        return Verdict([(kind, field) for kind, field in self.rows if kind in kinds])

    def __or__(self, other):
        return Verdict([*self.rows, *other.rows])

    def __and__(self, other):
        return Verdict([pair for pair in self.rows if pair in other.rows])

    def __sub__(self, other):
        return Verdict([pair for pair in self.rows if pair not in other.rows])

    def __xor__(self, other):
        both = [*self.rows, *other.rows]
        return Verdict([pair for pair in both if (pair in self.rows) != (pair in other.rows)])

    def __eq__(self, other):
        return isinstance(other, Verdict) and self.rows == other.rows

    def __len__(self):
        return len(self.rows)

    def __contains__(self, x):
        return x in self.rows


def in_order(pairs):
    """A tuple of pairs without duplicates, by the order of KINDS and then by the field."""
    return tuple([
        (kind, field)
        for kind in KINDS
        for field in sorted({named for own, named in pairs if own == kind})
    ])
