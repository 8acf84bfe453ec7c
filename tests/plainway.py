"""A second way of doing what points 10 to 20 say, for the tests to compare the program with.

It is as plain as can be, works on dicts with the names of the fields as keys, and uses nothing of
the package but the attributes of a form and of a rule.
"""

LETTERS = "abcdefghijklmnopqrstuvwxyz"
KINDS = ("unshown", "stale", "elder", "sent", "early", "stuck", "full")


class Refused(Exception):
    """A deed would ask more questions than there is room for."""

    def __init__(self, field):
        super().__init__(field)
        self.field = field


def names_of(form):
    return [name for name, parts in form.fields]


def near(form, words, name):
    """The near entry of a field; words is a dict."""
    first, looks, table, far = dict(form.fields)[name]
    entries = dict(zip(form.words, table))[words[name]]
    return entries if looks is None else dict(zip(form.words, entries))[words[looks]]


def far(form, name, word):
    table = dict(form.fields)[name][3]
    return None if table is None else dict(zip(form.words, table))[word]


def asks_far(form, name):
    return dict(form.fields)[name][3] is not None


def truth(form, words, name):
    return near(form, words, name) or far(form, name, words[name])


# Standings and deeds: points 10 to 12, 15 and 18.

def is_flag(value):
    return value is True or value is False


def is_row(value, length):
    return type(value) is tuple and len(value) == length


def is_name(value):
    return type(value) is str and 1 <= len(value) <= 8 and all(sign in LETTERS for sign in value)


def is_standing(form, rule, value):
    many = len(form.fields)
    if not is_row(value, 6) or not all(is_row(part, many) for part in value[:4]):
        return False
    words, opened, errors, known, asked, waiting = value
    if not all(type(word) is str and word in form.words for word in words):
        return False
    if not all(is_flag(flag) for flag in opened):
        return False
    if not all(error is None or is_name(error) for error in errors):
        return False
    for name, item in zip(names_of(form), known):
        possible = [(word, far(form, name, word)) for word in form.words]
        if item is not None and (not asks_far(form, name) or item not in possible):
            return False
    if type(asked) is not tuple or len(asked) > form.room:
        return False
    askable = [(name, word) for name in names_of(form) if asks_far(form, name) for word in form.words]
    if not all(is_row(item, 3) and item[:2] in askable and is_flag(item[2]) for item in asked):
        return False
    return waiting is False or (waiting is True and rule.sending == "wait" and len(asked) > 0)


def is_deed(form, value):
    def same(deed):
        return type(value) is tuple and [(type(part), part) for part in value] == [
            (type(part), part) for part in deed
        ]
    return any(same(deed) for deed in deeds(form, True))


def deeds(form, resets):
    listed = []
    for name in names_of(form):
        for word in form.words:
            listed.append(("enter", name, word))
    for name in names_of(form):
        listed.append(("leave", name))
    listed += [("send",), ("answer", 0), ("answer", 1), ("answer", 2)]
    return listed + [("reset",)] * resets


def start(form):
    none = (None,) * len(form.fields)
    firsts = tuple(parts[0] for name, parts in form.fields)
    return (firsts, (False,) * len(form.fields), none, none, (), False)


# Doing deeds: points 13 to 17 and 19.

def opened_out(form, standing):
    """A standing as dicts."""
    names = names_of(form)
    words, opened, errors, known, asked, waiting = standing
    return {
        "words": dict(zip(names, words)), "open": dict(zip(names, opened)),
        "errors": dict(zip(names, errors)), "known": dict(zip(names, known)),
        "asked": list(asked), "waiting": waiting, "events": [],
    }


def folded(form, now):
    """The standing that dicts make, and the events."""
    names = names_of(form)
    parts = [
        tuple(now[part][name] for name in names) for part in ("words", "open", "errors", "known")
    ]
    return (*parts, tuple(now["asked"]), now["waiting"]), tuple(now["events"])


def check(form, now, name):
    word = now["words"][name]
    message = near(form, now["words"], name)
    question = None
    if message is not None:
        error = message
    elif not asks_far(form, name):
        error = None
    elif now["known"][name] is not None and now["known"][name][0] == word:
        error = now["known"][name][1]
    else:
        error = None
        question = (name, word, True)
    now["errors"][name] = error
    now["events"].append(("checked", name, error))
    if question is not None and question not in now["asked"]:
        for at, (other, about, newest) in enumerate(now["asked"]):
            if other == name:
                now["asked"][at] = (other, about, False)
        now["asked"].append(question)
        now["events"].append(("asked", name, word))
        if len(now["asked"]) > form.room:
            raise Refused(name)


def check_all_with(form, rule, now, name):
    if now["open"][name]:
        check(form, now, name)
    for other, (first, looks, table, answers) in form.fields:
        if rule.around == "own":
            along = False
        elif rule.around == "looks":
            along = looks == name
        else:
            along = (name, other) in rule.around
        if along and now["open"][other]:
            check(form, now, other)


def make_open(now, name):
    if not now["open"][name]:
        now["events"].append(("opened", name))
    now["open"][name] = True


def stop_waiting(now):
    if now["waiting"]:
        now["events"].append(("dropped",))
    now["waiting"] = False


def enter(form, rule, now, name, word):
    if now["words"][name] == word:
        return
    now["words"][name] = word
    now["events"].append(("entered", name, word))
    stop_waiting(now)
    if rule.opens == "enter":
        make_open(now, name)
    if rule.wipes is True:
        if now["errors"][name] is not None:
            now["events"].append(("wiped", name))
        now["errors"][name] = None
    if rule.checks == "enter":
        check_all_with(form, rule, now, name)


def leave(form, rule, now, name):
    if rule.opens in ("enter", "leave"):
        make_open(now, name)
    check_all_with(form, rule, now, name)


def send(form, rule, now):
    if now["waiting"]:
        return
    for name in names_of(form):
        make_open(now, name)
    for name in names_of(form):
        check(form, now, name)
    if set(now["errors"].values()) != {None}:
        now["events"].append(("held",))
    elif len(now["asked"]) == 0 or rule.sending == "go":
        now["events"].append(("sent", tuple(now["words"][name] for name in names_of(form))))
    elif rule.sending == "wait":
        now["waiting"] = True
        now["events"].append(("waits",))
    elif rule.sending == "bar":
        now["events"].append(("held",))


def answer(form, rule, now, index):
    if len(now["asked"]) <= index:
        return
    name, word, newest = now["asked"][index]
    now["asked"] = now["asked"][:index] + now["asked"][index + 1:]
    said = far(form, name, word)
    taken = {"any": True, "same": now["words"][name] == word, "last": newest}[rule.taken]
    now["events"].append(("answered", name, word, said, taken))
    if taken:
        now["known"][name] = (word, said)
        if now["open"][name]:
            if rule.taken in ("any", "last"):
                now["errors"][name] = said
            elif near(form, now["words"], name) is None:
                now["errors"][name] = said
    if now["waiting"] and len(now["asked"]) == 0:
        now["waiting"] = False
        if set(now["errors"].values()) == {None}:
            now["events"].append(("sent", tuple(now["words"][name] for name in names_of(form))))
        else:
            now["events"].append(("held",))


def reset(form, now):
    now["events"].append(("reset",))
    stop_waiting(now)
    for name, (first, looks, table, answers) in form.fields:
        now["words"][name] = first
        now["open"][name] = False
        now["errors"][name] = None


def done(form, rule, standing, deed):
    """The standing behind a deed and the events of the deed; raises Refused."""
    now = opened_out(form, standing)
    kind, *rest = deed
    if kind == "enter":
        enter(form, rule, now, *rest)
    if kind == "leave":
        leave(form, rule, now, *rest)
    if kind == "send":
        send(form, rule, now)
    if kind == "answer":
        answer(form, rule, now, *rest)
    if kind == "reset":
        reset(form, now)
    return folded(form, now)


# Faults: point 20.

def faults(form, standing, events):
    """The faults of a start or a deed; the standing is the one behind it."""
    now = opened_out(form, standing)
    names = names_of(form)
    truths = {name: truth(form, now["words"], name) for name in names}
    rest = now["asked"] == [] and not now["waiting"]
    has_sent = "sent" in [event[0] for event in events]
    found = set()
    for name in names:
        error = now["errors"][name]
        if rest and now["open"][name] and error is None and truths[name] is not None:
            found.add(("unshown", name))
        if rest and now["open"][name] and error is not None and truths[name] != error:
            found.add(("stale", name))
        if has_sent and truths[name] is not None:
            found.add(("sent", name))
    for event in events:
        if event[0] == "answered" and event[4] and now["words"][event[1]] != event[2]:
            found.add(("elder", event[1]))
    if has_sent and now["asked"] != []:
        found.add(("early", ""))
    return sorted(found, key=lambda pair: (KINDS.index(pair[0]), (names + [""]).index(pair[1])))
