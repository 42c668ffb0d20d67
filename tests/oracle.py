"""A second reading of the document, written another way: dicts that are changed, stretches that are tried out."""


class CannotBeDone(Exception):
    """A DEED cannot be done."""


def opened(works, fault=None):
    """The WORKS as dicts and lists, with the FAULT that its run has."""
    make, chambers, ledger = works
    names = ("load", "heat", "top", "coal", "wicket", "damper", "screen")
    ring = [dict(zip(names, chamber)) for chamber in chambers]
    for part in ring:
        part["coal"] = list(part["coal"])
        if isinstance(part["load"], tuple):
            part["load"] = [list(course) for course in part["load"]]
    words = ("ticks", "flue", "earthed", "burnt", "good", "soft", "broken")
    return {"make": make, "ring": ring, "ledger": dict(zip(words, ledger)), "fault": fault}


def closed(state):
    """The WORKS as tuples."""
    chambers = []
    for part in state["ring"]:
        load = part["load"]
        if isinstance(load, list):
            load = tuple(tuple(course) for course in load)
        chambers.append((load, part["heat"], part["top"], tuple(part["coal"]),
                         part["wicket"], part["damper"], part["screen"]))
    return state["make"], tuple(chambers), tuple(state["ledger"].values())


def stretches(state):
    """The DRAUGHTS: each stretch of the ring is tried out."""
    ring = state["ring"]
    many = len(ring)
    found = []
    for first in range(many):
        for long in range(1, many + 1):
            row = [(first + steps) % many for steps in range(long)]
            parts = [ring[number] for number in row]
            if any(type(part["load"]) is int for part in parts):
                continue
            if [part["wicket"] for part in parts] != [True] + [False] * (long - 1):
                continue
            if [part["damper"] for part in parts] != [False] * (long - 1) + [True]:
                continue
            if any(ring[number]["screen"] and state["fault"] != ("leak", number) for number in row[:-1]):
                continue
            found.append(row)
    return found


def do(state, deed):
    """Do a DEED, or raise CannotBeDone."""
    word, number, *rest = deed
    need(state["fault"] != ({"brick": "wicket", "open": "wicket"}.get(word, word), number))
    need(0 <= number < len(state["ring"]))
    part = state["ring"][number]
    ledger = state["ledger"]
    make = state["make"]
    ready = part["wicket"] and part["heat"] < make[3]
    if word == "set":
        need(ready and part["load"] is None and all(0 <= kind < len(make[0]) for kind, _ in rest[0]))
        part["load"] = [[kind, count, 0] for kind, count in rest[0]]
        part["top"] = part["heat"]
    elif word == "draw":
        need(ready and isinstance(part["load"], list))
        for kind, count, stood in part["load"]:
            ledger["good" if stood >= make[0][kind][1] else "soft"] += count
        part["load"] = None
        part["top"] = 0
    elif word == "clear":
        need(ready and type(part["load"]) is int)
        ledger["broken"] += part["load"]
        part["load"] = None
        part["top"] = 0
    elif word == "brick":
        need(part["wicket"])
        part["wicket"] = False
    elif word == "open":
        need(not part["wicket"])
        part["wicket"] = True
    elif word in ("damper", "screen"):
        need(part[word] is not rest[0])
        part[word] = rest[0]
    elif word == "coal":
        need(len(rest[0]) > 0)
        part["coal"] = sorted(part["coal"] + list(rest[0]))
    else:
        need(rest[0] >= 1)
        part["heat"] += rest[0]
        ledger["burnt"] += rest[0]
        if part["load"] is not None and part["heat"] > part["top"]:
            part["top"] = part["heat"]


def need(so):
    if not so:
        raise CannotBeDone()


def holds(part, test):
    """Whether a TEST holds at a CHAMBER."""
    word = test[0]
    load = part["load"]
    answers = {"empty": load is None, "set": isinstance(load, list), "slag": type(load) is int}
    if word in answers:
        return answers[word]
    if word == "below":
        return part["heat"] < test[1]
    if word == "from":
        return part["heat"] >= test[1]
    if word == "pieces":
        return len(part["coal"]) < test[1]
    return part[word] is test[1]


def obey(state, rules):
    """Step 2; the list of the DEEDS done."""
    ring = state["ring"]
    many = len(ring)
    hot = [part["heat"] >= state["make"][2] for part in ring]
    fronts = [number for number in range(many) if hot[number] and not hot[(number + 1) % many]]
    deeds = []
    for place, when, act in rules:
        for front in fronts:
            number = (front + place) % many
            if all(holds(ring[number], test) for test in when):
                deed = (act[0], number) + act[1:]
                try:
                    do(state, deed)
                    deeds.append(deed)
                except CannotBeDone:
                    pass
    return deeds


def steps_on(state, still):
    """Steps 3 to 8."""
    make, ring, ledger = state["make"], state["ring"], state["ledger"]
    rows = [] if still else stretches(state)
    for row in rows:
        air = 0
        for number in row:
            together = ring[number]["heat"] + air
            air = together // 2
            ring[number]["heat"] = together - air
        ledger["flue"] += air
    for number in sorted(sum(rows, [])):
        part = ring[number]
        if part["heat"] >= make[2] and part["coal"] and state["fault"] != ("damp", number):
            strength = part["coal"].pop(0)
            part["heat"] += strength
            ledger["burnt"] += strength
    if make[5]:
        for part in ring:
            share = part["heat"] // make[5]
            part["heat"] -= share
            ledger["earthed"] += share
    for number, part in enumerate(ring):
        whole = part["screen"]
        mark_part(make, part)
        if state["fault"] == ("screen", number):
            part["screen"] = whole
    ledger["ticks"] += 1


def mark_part(make, part):
    """Step 7 at one CHAMBER."""
    load = part["load"]
    if isinstance(load, list):
        melts = False
        for place, course in enumerate(load):
            own = max(0, part["heat"] - place * make[1])
            mark, _, melt = make[0][course[0]]
            course[2] += own >= mark
            melts = melts or own > melt
        if melts:
            part["load"] = sum(count for _, count, _ in load)
    if load is not None and part["heat"] > part["top"]:
        part["top"] = part["heat"]
    if part["heat"] >= make[4]:
        part["screen"] = False


def run_told(works, rules, told, stills, many):
    """The pair (the WORKS behind 0, 1, .. many ticks, the DEEDS done), or None if a told DEED cannot be done."""
    state = opened(works)
    rows = [closed(state)]
    done = []
    for tick in range(1, many + 1):
        for own_tick, deed in told:
            if own_tick == tick:
                try:
                    do(state, deed)
                except CannotBeDone:
                    return None
                done.append((tick, deed))
        done.extend((tick, deed) for deed in obey(state, rules))
        steps_on(state, tick in stills)
        rows.append(closed(state))
    return tuple(rows), tuple(done)


def tick(works, rules, still=False):
    """The WORKS behind a tick by RULES alone."""
    state = opened(works)
    obey(state, rules)
    steps_on(state, still)
    return closed(state)


def rows_by(works, rules, many, stills=()):
    """The list of the WORKS behind 0, 1, .. many ticks."""
    rows = [works]
    for number in range(1, many + 1):
        rows.append(tick(rows[-1], rules, number in stills))
    return rows


def chosen(works, rules, choice):
    """The WORKS behind a tick in which a choice is taken."""
    return tick(works, tuple((place, (), act) for place, act in choice) + rules)


def run_case(works, fault, rules, told, many):
    """The list of the WORKS behind 0, 1, .. many ticks with a FAULT; DEEDS that cannot be done are passed over."""
    rows = [works]
    for number in range(1, many + 1):
        state = opened(rows[-1], fault)
        for own_tick, deed in told:
            if own_tick == number:
                try:
                    do(state, deed)
                except CannotBeDone:
                    pass
        obey(state, rules)
        steps_on(state, False)
        rows.append(closed(state))
    return rows


def seen(works, number=0):
    """What is seen from a CHAMBER."""
    make, chambers, _ = works
    parts = []
    for step in range(len(chambers)):
        load, heat, _, coal, wicket, damper, screen = chambers[(number + step) % len(chambers)]
        if isinstance(load, tuple):
            load = tuple((kind, count, min(stood, make[0][kind][1])) for kind, count, stood in load)
        parts.append((load, heat, coal, wicket, damper, screen))
    return tuple(parts)


def is_hot(works, number):
    return works[1][number % len(works[1])][1] >= works[0][2]


def is_out(works):
    return not any(is_hot(works, number) for number in range(len(works[1])))


def fronts(works):
    return [number for number in range(len(works[1])) if is_hot(works, number) and not is_hot(works, number + 1)]


def fires(works):
    """The sets of CHAMBERS of the FIRES."""
    many = len(works[1])
    if all(is_hot(works, number) for number in range(many)):
        return [set(range(many))]
    found = []
    for front in fronts(works):
        row = {front}
        while is_hot(works, front - len(row)):
            row.add((front - len(row)) % many)
        found.append(row)
    return found
