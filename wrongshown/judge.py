"""Faults: what was wrong with a start or with a deed."""

from wrongshown.standings import is_at_rest
from wrongshown.truth import true_errors

KINDS = ("unshown", "stale", "elder", "sent", "early", "stuck", "full")


def faults(form, rule, step):
    """A list of the faults (kind, field) of a Step, by the order of KINDS and of the fields."""
    truths = true_errors(form, step.after[0])
    pairs = []
    if is_at_rest(step.after):
        pairs.extend(faults_at_rest(form, step.after, truths))
    pairs.extend([("elder", name) for name in form.field_names() if took_elder(form, step, name)])
    if has_event(step, "sent"):
        pairs.extend(faults_of_sending(form, step.after, truths))
    return pairs


def faults_at_rest(form, standing, truths):
    """The faults "unshown" and "stale" of a standing at rest."""
    words, opened, errors, known, asked, waiting = standing
    rows = [
        (name, error, truth)
        for name, flag, error, truth in zip(form.field_names(), opened, errors, truths)
        if flag and error != truth
    ]
    unshown = [("unshown", name) for name, error, truth in rows if error is None]
    stale = [("stale", name) for name, error, truth in rows if error is not None]
    return unshown + stale


def took_elder(form, step, name):
    """True if an answer about another word than the one that a field holds was taken for it."""
    word = step.after[0][form.field_names().index(name)]
    return any([
        event[0] == "answered" and event[1] == name and event[2] != word and event[4]
        for event in step.events
    ])


def has_event(step, kind):
    """True if an event of this kind is among the events of a Step."""
    return any([event[0] == kind for event in step.events])


def faults_of_sending(form, standing, truths):
    """The faults "sent" and "early" of a form that was sent."""
    pairs = [
        ("sent", name) for name, truth in zip(form.field_names(), truths) if truth is not None
    ]
    words, opened, errors, known, asked, waiting = standing
    if asked != ():
        pairs.append(("early", ""))
    return pairs
