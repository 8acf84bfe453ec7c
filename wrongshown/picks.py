"""Choosing some of several rows."""


def picks(rows, count):
    """A list of all tuples of count of the rows, ordered by the indexes of what they hold."""
    chosen = [()]
    for turn in range(count):
        chosen = [
            (*pick, at) for pick in chosen for at in range(len(rows)) if pick == () or at > pick[-1]
        ]
    return [tuple([rows[at] for at in pick]) for pick in chosen]
