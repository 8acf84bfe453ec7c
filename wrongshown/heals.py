"""Changes of a form and a rule, and which of them heal a kind of fault."""

from wrongshown.books import fault_kinds
from wrongshown.errors import InvalidChange, InvalidForm, InvalidTable, UnknownField
from wrongshown.guards import MOST_STANDINGS, check_bound, check_kinds, check_rules
from wrongshown.picks import picks
from wrongshown.plain import has_items
from wrongshown.rules import PARTS, is_allowed

MOST_CANDIDATES = 6


def is_change(form, rule, value):
    """True if a value, any value, is a change of the form and the rule."""
    if has_items(value, 3):
        return value[0] == "rule" and value[1] in PARTS and is_allowed(value[1], value[2])
    return has_items(value, 4) and value[0] == "table" and fits(form, value[1], value[2], value[3])


def fits(form, field, kind, table):
    """True if a table, any value, may be that of a field; the field and the kind are any values."""
    try:
        form.with_table(field, kind, table)
    except (UnknownField, InvalidTable, InvalidForm):
        return False
    return True


def aim_of(change):
    """What a change replaces: the change without its last item, the new value or table."""
    return change[:-1]


def with_changes(form, rule, changes):
    """A tuple (form, rule) with all of some changes made; they are any values."""
    aims = []
    for at, change in enumerate(changes):
        if not is_change(form, rule, change) or aim_of(change) in aims:
            raise InvalidChange(at)
        aims.append(aim_of(change))
    return changed(form, rule, changes)


def changed(form, rule, changes):
    """A tuple (form, rule) with all of some changes made, which are not judged again."""
    for change in changes:
        if change[0] == "rule":
            rule = rule.with_part(change[1], change[2])
        else:
            form = form.with_table(change[1], change[2], change[3])
    return (form, rule)


def heals(form, rule, kind, candidates, *, resets=True, limit=2000):
    """A list of all sets of the fewest candidates, at most two, that heal a kind of fault."""
    check_bound(limit, MOST_STANDINGS)
    check_kinds([kind])
    check_candidates(form, rule, candidates)
    before = fault_kinds(form, rule, resets, limit)
    if kind not in before:
        return [()]
    allowed = [other for other in before if other != kind]
    for count in (1, 2):
        # All sets of a size are tried, as each of them may exceed the limit.
        healing = [
            changes for changes in picks(candidates, count)
            if have_aims(changes) and leaves(changed(form, rule, changes), allowed, resets, limit)
        ]
        if healing:
            return healing
    return []


def check_candidates(form, rule, candidates):
    """Refuse the first candidate that is no change, is there already, or is one too many."""
    for at, change in enumerate(candidates):
        if at >= MOST_CANDIDATES or not is_change(form, rule, change) or change in candidates[:at]:
            raise InvalidChange(at)


def have_aims(changes):
    """True if no two of some changes have the same aim."""
    aims = [aim_of(change) for change in changes]
    return len(set(aims)) == len(aims)


def leaves(pair, kinds, resets, limit):
    """True if the book of a pair (form, rule) has faults of some kinds alone, if any."""
    form, rule = pair
    return all([kind in kinds for kind in fault_kinds(form, rule, resets, limit)])


def rules_free(form, kinds, rules, *, resets=True, limit=2000):
    """A list of the indexes of the rules under which the form has no fault of any of some kinds."""
    check_bound(limit, MOST_STANDINGS)
    check_kinds(kinds)
    check_rules(rules)
    found = [fault_kinds(form, rule, resets, limit) for rule in rules]
    return [
        at for at, held in enumerate(found) if not any([kind in kinds for kind in held])
    ]
