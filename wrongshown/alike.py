"""Forms and rules alike: whether some deeds show a difference, and which ones are the least."""

from wrongshown.errors import NotComparable
from wrongshown.graphs import tried
from wrongshown.guards import check_bound, check_rules
from wrongshown.plain import has_items
from wrongshown.standings import deeds, is_standing, start_of
from wrongshown.trails import Trail

MOST_TUPLES = 20000


def difference(first, second, *, resets=True, limit=5000):
    """The least run that shows a difference between two pairs (form, rule), or None."""
    check_bound(limit, MOST_TUPLES)
    check_comparable(first, second)
    trail, run = compared(Side(first, resets), Side(second, resets), limit)
    return run


def alike(first, second, *, resets=True, limit=5000):
    """True if no run shows a difference between two pairs (form, rule)."""
    return difference(first, second, resets=resets, limit=limit) is None


def pairing(first, second, *, resets=True, limit=5000):
    """A list of the tuples of two standings to which the same runs lead, None if they differ."""
    check_bound(limit, MOST_TUPLES)
    check_comparable(first, second)
    trail, run = compared(Side(first, resets), Side(second, resets), limit)
    return list(trail.rows) if run is None else None


def is_pairing(first, second, value, *, resets=True):
    """True if a value, any value, is a pairing of two pairs (form, rule)."""
    check_comparable(first, second)
    left = Side(first, resets)
    right = Side(second, resets)
    if not isinstance(value, list) or not all([is_tuple_of(left, right, item) for item in value]):
        return False
    rows = {item: True for item in value}
    return starts_of(left, right) in rows and all([keeps_in(left, right, row, rows) for row in rows])


def rules_alike(form, rules, *, resets=True, limit=5000):
    """A list of lists of the indexes of the rules under which the form is alike."""
    check_bound(limit, MOST_TUPLES)
    check_rules(rules)
    sides = [Side((form, rule), resets) for rule in rules]
    # All of them are compared, as each comparison may exceed the limit.
    differing = {
        (low, high): compared(sides[low], sides[high], limit)[1] is not None
        for low in range(len(sides)) for high in range(low + 1, len(sides))
    }
    groups = []
    for at in range(len(sides)):
        group = [row for row in groups if not differing[row[0], at]]
        if group:
            group[0].append(at)
        else:
            groups.append([at])
    return groups


class Side:
    """One of two pairs (form, rule) that are compared; it keeps what its deeds did already."""

    def __init__(self, pair, resets):
        form, rule = pair
        self.form = form
        self.rule = rule
        self.ways = deeds(form, resets=resets)
        self.met = {}

    def ends_of(self, standing):
        """For each deed the standing behind it and the sent words or None; None if it is refused."""
        if standing not in self.met:
            self.met[standing] = [end_of(self.form, self.rule, standing, deed) for deed in self.ways]
        return self.met[standing]


def end_of(form, rule, standing, deed):
    """The standing behind a deed and its sent words or None; None if the deed is refused."""
    made, refused = tried(form, rule, standing, deed)
    if made is None:
        return None
    sent = [event[1] for event in made.events if event[0] == "sent"]
    return (made.after, sent[0] if sent else None)


def check_comparable(first, second):
    """Refuse two pairs (form, rule) whose forms have other words or other field names."""
    if first[0].words != second[0].words:
        raise NotComparable("words")
    if first[0].field_names() != second[0].field_names():
        raise NotComparable("fields")


def starts_of(left, right):
    """The tuple of the starts of two sides."""
    return (start_of(left.form), start_of(right.form))


def looks_same(left, right):
    """True if two standings have the same open fields and errors."""
    return left[1:3] == right[1:3]


def compared(left, right, limit):
    """The Trail of the tuples without a difference, and the least run that shows one, or None."""
    trail = Trail(limit)
    trail.place(starts_of(left, right), None)
    at = 0
    while at < len(trail.rows):
        first, second = trail.rows[at]
        ends = list(zip(left.ways, left.ends_of(first), right.ends_of(second)))
        for deed, one, other in ends:
            if differ(one, other):
                return trail, trail.run_to(at) + (deed,)
            if one is not None:
                trail.place((one[0], other[0]), (at, deed))
        at += 1
    return trail, None


def differ(one, other):
    """True if two ends of the same deed show a difference."""
    if one is None or other is None:
        return one is not None or other is not None
    return one[1] != other[1] or not looks_same(one[0], other[0])


def is_tuple_of(left, right, value):
    """True for a tuple of a standing of each of two sides; the value is any value."""
    if not has_items(value, 2):
        return False
    first, second = value
    return is_standing(left.form, left.rule, first) and is_standing(right.form, right.rule, second)


def keeps_in(left, right, row, rows):
    """True if a tuple looks the same, and no deed shows a difference or leads away from the rows."""
    first, second = row
    if not looks_same(first, second):
        return False
    for one, other in zip(left.ends_of(first), right.ends_of(second)):
        if differ(one, other):
            return False
        if one is not None and (one[0], other[0]) not in rows:
            return False
    return True


def parting(book, first, second):
    """The least tuple of deeds that shows a difference between two standings of a book, or None."""
    one = book.place_of(first)
    other = book.place_of(second)
    levels = levels_of(book.graph)
    for depth, groups in enumerate(levels):
        if groups[one] != groups[other]:
            return least_parting(book.graph, levels[:depth], one, other)
    return None


def classes(book):
    """A list of lists of the indexes of the standings of a book that no deeds tell apart."""
    rows = []
    for at, group in enumerate(levels_of(book.graph)[-1]):
        if group == len(rows):
            rows.append([])
        rows[group].append(at)
    return rows


def levels_of(graph):
    """For 0, 1, 2 .. deeds: the number of the group of each standing that so many do not tell apart.

    The groups of the last level are told apart by no more deeds.
    """
    levels = [numbered([standing[1:3] for standing in graph.trail.rows])]
    marks = marks_of(graph)
    finer = refined(graph, marks, levels[-1])
    while finer != levels[-1]:
        levels.append(finer)
        finer = refined(graph, marks, finer)
    return levels


def numbered(keys):
    """For each key a number, the same one for equal keys, counted up in the order of the keys."""
    numbers = {}
    return [numbers.setdefault(key, len(numbers)) for key in keys]


def marks_of(graph):
    """For each standing what each deed shows at once."""
    rows = graph.trail.rows
    return [
        tuple([mark_of(rows, target, sent) for target, sent in zip(targets, sends)])
        for targets, sends in zip(graph.targets, graph.sends)
    ]


def mark_of(rows, target, sent):
    """None for a deed that is refused, otherwise the sent words, () if there are none."""
    if target is None:
        return None
    return rows[target][0] if sent else ()


def refined(graph, marks, groups):
    """The groups of a level with one more deed."""
    return numbered([
        (groups[at], mark, tuple([groups[behind(at, target)] for target in targets]))
        for at, (mark, targets) in enumerate(zip(marks, graph.targets))
    ])


def behind(at, target):
    """The index behind a deed: a deed that is refused, which has no target, leads nowhere else."""
    return at if target is None else target


def least_parting(graph, levels, one, other):
    """The least tuple of deeds, one for each of the levels, that tells two standings apart."""
    marks = marks_of(graph)
    path = []
    # The deed has to leave a difference that the deeds that are left can show.
    for groups in levels[::-1]:
        turn = telling_way(graph, marks, groups, one, other)
        path.append(graph.ways[turn])
        one = behind(one, graph.targets[one][turn])
        other = behind(other, graph.targets[other][turn])
    return tuple(path)


def telling_way(graph, marks, groups, one, other):
    """The index of the first deed that shows a difference, or leads to two different groups."""
    ends = list(zip(graph.targets[one], graph.targets[other]))
    return [
        turn for turn, (left, right) in enumerate(ends)
        if marks[one][turn] != marks[other][turn]
        or groups[behind(one, left)] != groups[behind(other, right)]
    ][0]
