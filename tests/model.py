"""A second doer of deeds, over dicts opened anew for each, that the package's steps are held against."""


class Break(Exception):
    pass


class Refusal(Exception):
    pass


def opened(standing):
    names = ("state", "value", "want", "to", "back", "flags")
    lines = [dict(zip(names, line)) for line in standing[3]]
    for line in lines:
        flags = line.pop("flags")
        line.update(to=list(line["to"]), back=list(line["back"]), shares=flags in (1, 3), owns=flags in (2, 3))
    return {"state": standing[0], "store": standing[1], "last": standing[2], "lines": lines}


def closed(world):
    lines = tuple(
        (line["state"], line["value"], line["want"], tuple(line["to"]), tuple(line["back"]),
         int(line["shares"]) + 2 * int(line["owns"]))
        for line in world["lines"])
    return (world["state"], world["store"], world["last"], lines)


def find_hand_row(table, state, event):
    found = [row for row in table[2] if row[0] == "hand" and row[1:3] == (state, event)]
    return found[0] if found else None


def find_house_row(table, world, kind, sender):
    sharers = [number for number, line in enumerate(world["lines"]) if line["shares"]]
    when = "more" if set(sharers) - {sender} else "last"
    found = [row for row in table[2]
             if row[0] == "house" and row[1:3] == (world["state"], kind) and row[3] in ("any", when)]
    return found[0] if found else None


def post(way, kind, value, load):
    if len(way) == 2:
        raise Break("full")
    way.append((kind, {"bare": None, "value": value}[load]))


def act_of_hand(world, hand, borne, act):
    line = world["lines"][hand]
    word, *rest = act
    match word:
        case "keep":
            line["value"] = borne
        case "lose":
            line["value"] = None
        case "send":
            post(line["back"], rest[0], line["value"], rest[1])
        case "put":
            world["last"] = line["value"] = (world["last"][0] + 1, line["want"])
            return ("wrote", hand, line["want"])
        case "tell":
            if not line["value"] or line["value"][0] != world["last"][0]:
                raise Break("old")
            return ("read", hand, line["value"][1])
    return None


def act_of_house(world, sender, borne, act):
    line = world["lines"][sender]
    word, *rest = act
    match word:
        case "keep":
            world["store"] = borne
        case "own":
            line["owns"] = True
        case "share":
            line["shares"] = True
        case "forget":
            line.update(owns=False, shares=False)
        case "clear":
            for each in world["lines"]:
                each.update(owns=False, shares=False)
        case "send" | "owner" | "others":
            goes = {"send": lambda each: each is line,
                    "owner": lambda each: each["owns"],
                    "others": lambda each: each["shares"] and each is not line}[word]
            for each in filter(goes, world["lines"]):
                post(each["to"], rest[0], world["store"], rest[1])


def clashes(table, world):
    rights = [dict(table[0])[line["state"]] for line in world["lines"]]
    return any(one == "write" and other in ("read", "write")
               for place, one in enumerate(rights)
               for other in rights[:place] + rights[place + 1:])


def find_row(table, world, deed):
    """The row of a deed, or None where a letter has none; a Refusal where it may not be done."""
    word, hand, what = deed[:3]
    if hand not in range(len(world["lines"])):
        raise Refusal
    line = world["lines"][hand]
    if word == "ask":
        row = find_hand_row(table, line["state"], what)
        if row is None:
            raise Refusal
        return row
    way = line["to" if word == "take" else "back"]
    if what not in range(len(way)):
        raise Refusal
    if word == "take":
        return find_hand_row(table, line["state"], way[what][0])
    row = find_house_row(table, world, way[what][0], hand)
    if row and row[5] == (("wait",),):
        raise Refusal
    return row


def do(table, world, deed):
    row = find_row(table, world, deed)
    if row is None:
        raise Break("norow")
    word, hand, what = deed[:3]
    line = world["lines"][hand]
    borne = None
    if word == "ask" and what == "write":
        line["want"] = deed[3]
    if word == "take":
        borne = line["to"].pop(what)[1]
    if word == "get":
        borne = line["back"][what][1]
        if ("stay",) not in row[5]:
            line["back"].pop(what)
    does = act_of_house if word == "get" else act_of_hand
    answers = [does(world, hand, borne, act) for act in row[-1]]
    (world if word == "get" else line)["state"] = row[-2]
    if clashes(table, world):
        raise Break("clash")
    return next(filter(None, answers), None)


def model_step(table, standing, deed):
    """What a step tells, or None where the deed is refused."""
    world = opened(standing)
    try:
        answer = do(table, world, deed)
    except Refusal:
        return None
    except Break as broken:
        return (standing, None, (broken.args[0],))
    return (closed(world), answer, None)


def all_deeds(many, letters=2):
    """Each deed that could be thought of, in the order in which those that may be done are told."""
    for hand in range(many):
        yield from (("ask", hand, "read"), ("ask", hand, "write", 0), ("ask", hand, "drop"))
        yield from (("take", hand, k) for k in range(letters))
        yield from (("get", hand, k) for k in range(letters))


def model_may(table, standing, order):
    return [deed for deed in all_deeds(len(standing[3]))
            if model_step(table, standing, deed) is not None
            and (deed[0] == "ask" or deed[2] == 0 or not order)]


def model_stuck(table, standing, order):
    letters = sum(len(line[3]) + len(line[4]) for line in standing[3])
    comers = [deed for deed in model_may(table, standing, order) if deed[0] != "ask"]
    return letters > 0 and comers == []
