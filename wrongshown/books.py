"""Books: all standings that runs of a form under a rule lead to, and closed lists of standings."""

from wrongshown.errors import InvalidDeed, LimitExceeded, NoFault, NoStanding
from wrongshown.graphs import fault_runs, spread, stuck_places
from wrongshown.guards import MOST_STANDINGS, check_bound, check_kinds
from wrongshown.standings import is_deed, is_standing, start_of
from wrongshown.trails import Trail
from wrongshown.verdicts import Verdict


class Book:
    """The standings of a form under a rule in the order of their least runs, and the faults."""

    def __init__(self, form, rule, *, resets=True, limit=2000):
        check_bound(limit, MOST_STANDINGS)
        self.form = form
        self.rule = rule
        self.resets = resets
        self.limit = limit
        self.graph = spread(form, rule, [start_of(form)], resets=resets, limit=limit)
        self.runs = fault_runs(self.graph)

    def __len__(self):
        return len(self.graph.trail.rows)

    def __contains__(self, x):
        return is_standing(self.form, self.rule, x) and x in self.graph.trail.places

    def moves(self):
        """A list of the deeds of the book, in their order."""
        return list(self.graph.ways)

    def standings(self):
        """A list of the standings, in the order of their least runs."""
        return list(self.graph.trail.rows)

    def place_of(self, standing):
        """The index of a standing, any value, in the order of the standings."""
        if standing not in self:
            raise NoStanding()
        return self.graph.trail.places[standing]

    def least_run(self, standing):
        """The least run that leads to a standing, any value."""
        return self.graph.trail.run_to(self.place_of(standing))

    def follow(self, standing, deed):
        """The standing behind a deed, or None if the deed is refused; both are any values."""
        at = self.place_of(standing)
        if not is_deed(self.form, deed) or deed not in self.graph.ways:
            raise InvalidDeed(deed)
        target = self.graph.targets[at][self.graph.ways.index(deed)]
        return None if target is None else self.graph.trail.rows[target]

    def faults(self):
        """A list of the faults by the order of KINDS and of the fields."""
        return list(self.runs)

    def least_fault(self, kind, field):
        """The least run of a fault."""
        if (kind, field) not in self.runs:
            raise NoFault(kind, field)
        return self.runs[kind, field]

    def is_free(self, kind):
        """True if the book has no fault of a kind."""
        check_kinds([kind])
        return kind not in self.verdict().kinds()

    def stuck(self):
        """A list of the standings that are stuck, in the order of the standings."""
        return [self.graph.trail.rows[at] for at in stuck_places(self.graph)]

    def verdict(self):
        """The Verdict of the faults."""
        return Verdict(self.faults())

    def deeds_between(self, first, second):
        """The least tuple of deeds from one standing to another one, or None; both are any values."""
        start = self.place_of(first)
        goal = self.place_of(second)
        return least_path(self.graph, start, goal)


def least_path(graph, start, goal):
    """The least tuple of deeds that lead from one index of a graph to another one, or None."""
    trail = Trail(len(graph.trail.rows))
    trail.place(start, None)
    at = 0
    while at < len(trail.rows) and goal not in trail.places:
        targets = graph.targets[trail.rows[at]]
        for deed, target in zip(graph.ways, targets):
            if target is not None:
                trail.place(target, (at, deed))
        at += 1
    return trail.run_to(trail.places[goal]) if goal in trail.places else None


def fault_kinds(form, rule, resets, limit):
    """A list of the kinds of the faults of the book of a form under a rule."""
    return Book(form, rule, resets=resets, limit=limit).verdict().kinds()


def is_closed(form, rule, value, *, resets=True):
    """True if a value, any value, is a list of standings from which no deed leads away."""
    return closed_graph(form, rule, value, resets) is not None


def shows_free(form, rule, value, kind, *, resets=True):
    """True if a value, any value, is a closed list whose standings have no fault of a kind."""
    check_kinds([kind])
    graph = closed_graph(form, rule, value, resets)
    return graph is not None and kind not in [found for found, field in fault_runs(graph)]


def closed_graph(form, rule, value, resets):
    """The Graph of a closed list, None if a value, any value, is none."""
    if not isinstance(value, list):
        return None
    if not all([is_standing(form, rule, item) for item in value]):
        return None
    # A dict keeps the order, so that the same list is always worked through in the same way.
    standings = list({item: True for item in value})
    if start_of(form) not in standings:
        return None
    try:
        return spread(form, rule, standings, resets=resets, limit=len(standings))
    except LimitExceeded:
        return None
