"""Faults: what was wrong with a start or with a deed."""

from wrongshown.standings import is_at_rest
from wrongshown.truth import true_errors

KINDS = ("unshown", "stale", "elder", "sent", "early", "stuck", "full")


def faults(form, rule, step):
    """A list of the faults (kind, field) of a Step, by the order of KINDS and of the fields."""
    pairs = []
    if is_at_rest(step.after):
        pairs.extend(faults_at_rest(form, step.after))
    pairs.extend([("elder", name) for name in elders(form, step)])
    if has_event(step, "sent"):
        pairs.extend(faults_of_sending(form, step.after))
    return pairs


def faults_at_rest(form, standing):
    """The faults "unshown" and "stale" of a standing at rest."""
    words, opened, errors, known, asked, waiting = standing
    rows = [
        (name, error)
        for name, flag, error, truth in zip(form.field_names(), opened, errors, true_errors(form, words))
        if flag and error != truth
    ]
    unshown = [("unshown", name) for name, error in rows if error is None]
    stale = [("stale", name) for name, error in rows if error is not None]
    return unshown + stale


def elders(form, step):
    """The fields for which an answer about another word than the one that they hold was taken."""
    taken = [event for event in step.events if event[0] == "answered" and event[4]]
    return [
        name for name, word in zip(form.field_names(), step.after[0])
        if any([event[1] == name and event[2] != word for event in taken])
    ]


def has_event(step, kind):
    """True if an event of this kind is among the events of a Step."""
    return any([event[0] == kind for event in step.events])


def faults_of_sending(form, standing):
    """The faults "sent" and "early" of a form that was sent."""
    words, opened, errors, known, asked, waiting = standing
    truths = true_errors(form, words)
    pairs = [
        ("sent", name) for name, truth in zip(form.field_names(), truths) if truth is not None
    ]
    if asked != ():
        pairs.append(("early", ""))
    return pairs
