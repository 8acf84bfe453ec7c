"""Graphs: some standings of a form under a rule, and what each deed does from each of them."""

from wrongshown.doing import made_step
from wrongshown.errors import TooManyAsked
from wrongshown.judge import KINDS, faults, has_event
from wrongshown.standings import deeds
from wrongshown.trails import Trail
from wrongshown.truth import true_errors


class Graph:
    """Standings as a trail, and for each of them, deed by deed, where the deed leads.

    ways are the deeds. targets has a row for each standing: for each way the index of the standing
    behind it, or None if the deed is refused. sends has such rows of flags: whether the form is
    sent. sources are the faults of deeds, each with the index and the deed that first had it.
    """

    def __init__(self, form, rule, resets, limit):
        self.form = form
        self.rule = rule
        self.ways = deeds(form, resets=resets)
        self.trail = Trail(limit)
        self.targets = []
        self.sends = []
        self.sources = {}

    def try_ways(self, at):
        """Do each deed from the standing at an index, and place what is behind it."""
        targets = []
        sends = []
        for deed in self.ways:
            made, refused = tried(self.form, self.rule, self.trail.rows[at], deed)
            if made is None:
                self.note([("full", refused)], (at, deed))
                targets.append(None)
                sends.append(False)
            else:
                self.note(faults(self.form, self.rule, made), (at, deed))
                targets.append(self.trail.place(made.after, (at, deed)))
                sends.append(has_event(made, "sent"))
        self.targets.append(targets)
        self.sends.append(sends)

    def note(self, pairs, origin):
        """Keep the faults that are new."""
        for pair in pairs:
            if pair not in self.sources:
                self.sources[pair] = origin

    def run_of(self, origin):
        """The least run that ends with a deed from the standing at an index."""
        at, deed = origin
        return self.trail.run_to(at) + (deed,)


def tried(form, rule, standing, deed):
    """A pair: the Step of a deed, None if it is refused, and the field that refuses it, or None."""
    try:
        return made_step(form, rule, standing, deed), None
    except TooManyAsked as refusal:
        return None, refusal.field


def spread(form, rule, standings, *, resets, limit):
    """The Graph of different standings and all that deeds lead to from them, at most limit."""
    graph = Graph(form, rule, resets, limit)
    for standing in standings:
        graph.trail.place(standing, None)
    at = 0
    # Trying the ways of a standing adds to the rows, so these are not iterated over.
    while at < len(graph.trail.rows):
        graph.try_ways(at)
        at += 1
    return graph


def stuck_places(graph):
    """The indexes of the standings that are right, and from which no sending is possible."""
    able = able_to_send(graph)
    return [
        at for at, standing in enumerate(graph.trail.rows)
        if not able[at] and is_right(graph.form, standing)
    ]


def is_right(form, standing):
    """True if no field has a true error at the words of a standing."""
    return all([error is None for error in true_errors(form, standing[0])])


def able_to_send(graph):
    """For each standing a flag: whether sends, answers and leaves from it can send the form."""
    able = [any(row) for row in graph.sends]
    before = places_before(graph)
    todo = [at for at, flag in enumerate(able) if flag]
    while todo:
        place = todo.pop()
        for at in before[place]:
            if not able[at]:
                able[at] = True
                todo.append(at)
    return able


def places_before(graph):
    """For each standing the indexes of those from which a send, an answer or a leave leads to it."""
    before = [[] for standing in graph.trail.rows]
    for at, targets in enumerate(graph.targets):
        for deed, target in zip(graph.ways, targets):
            if target is not None and deed[0] in ("send", "answer", "leave"):
                before[target].append(at)
    return before


def fault_runs(graph):
    """A dict of the faults of a graph, in their order, each with its least run."""
    runs = {pair: graph.run_of(origin) for pair, origin in graph.sources.items()}
    stuck = stuck_places(graph)
    if stuck:
        runs["stuck", ""] = graph.trail.run_to(stuck[0])
    names = graph.form.field_names() + ("",)
    return {
        (kind, name): runs[kind, name]
        for kind in KINDS for name in names if (kind, name) in runs
    }
