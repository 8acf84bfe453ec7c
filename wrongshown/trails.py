"""Trails: what deeds lead to, in the order in which it is found, and the deeds that lead there."""

from wrongshown.errors import LimitExceeded


class Trail:
    """Different rows, at most limit of them, each with the row and the deed that first led to it."""

    def __init__(self, limit):
        self.limit = limit
        self.rows = []
        self.places = {}
        self.origins = []

    def place(self, row, origin):
        """The index of a row; a new row is added with its origin (index, deed), or None for none."""
        if row not in self.places:
            if len(self.rows) >= self.limit:
                raise LimitExceeded(self.limit)
            self.places[row] = len(self.rows)
            self.rows.append(row)
            self.origins.append(origin)
        return self.places[row]

    def run_to(self, at):
        """The deeds, in order, that first led to the row at an index."""
        run = []
        origin = self.origins[at]
        while origin is not None:
            before, deed = origin
            run.append(deed)
            origin = self.origins[before]
        return tuple(run[::-1])
