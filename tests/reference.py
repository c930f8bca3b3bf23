"""A second reader of tables, by patterns, that the package's reader is held against."""

import re

WORD = "[a-z]{1,8}"
KIND = rf"(?!(?:read|write|drop)(?![a-z])){WORD}"
RIGHT = "(?:none|read|write)"
LOAD = "(?:bare|value)"
HAND_ACT = f"(?:keep|lose|tell|put|send {KIND} {LOAD})"
HOUSE_ACT = f"(?:keep|own|share|forget|clear|stay|(?:send|owner|others) {KIND} {LOAD})"


def listing(part, most):
    return f"{part}(?:, {part}){{0,{most - 1}}}"


HANDS_ROW = re.compile("hands (" + listing(f"{WORD} {RIGHT}", 8) + ")")
HOUSES_ROW = re.compile("houses (" + listing(WORD, 8) + ")")
HAND_ROW = re.compile(f"(hand) ({WORD}) ({WORD}) -> ({WORD})(?:: ({listing(HAND_ACT, 6)}))?")
HOUSE_ROW = re.compile(
    f"(house) ({WORD}) ({KIND}) (any|last|more) -> ({WORD})(?:: ({listing(HOUSE_ACT, 6)}))?"
)
WAIT_ROW = re.compile(f"(house) ({WORD}) ({KIND}) (any) -> ({WORD}): (wait)")


def unlike(things):
    return len(set(things)) == len(things)


def hands_of(line):
    found = HANDS_ROW.fullmatch(line)
    if not found:
        return None
    hands = tuple(tuple(pair.split()) for pair in found.group(1).split(","))
    return hands if unlike([state for state, right in hands]) else None


def houses_of(line):
    found = HOUSES_ROW.fullmatch(line)
    if not found:
        return None
    houses = tuple(found.group(1).replace(",", "").split())
    return houses if unlike(houses) else None


def row_of(line):
    for pattern in (HAND_ROW, HOUSE_ROW, WAIT_ROW):
        found = pattern.fullmatch(line)
        if found:
            acts = (found.groups()[-1] or "").split(", ")
            acts = tuple(tuple(act.split()) for act in acts if act)
            return found.groups()[:-1] + (acts,)
    return None


def hand_row_is_good(row, states):
    _, state, event, after, acts = row
    answers = [act for act in acts if act in (("tell",), ("put",))]
    keeps_an_ask = event in ("read", "write", "drop") and ("keep",) in acts
    return {state, after} <= set(states) and len(answers) < 2 and not keeps_an_ask


def senders(row):
    """The cases that a row is for: a house's row of any is for two."""
    if row[0] == "hand":
        return {row[:3]}
    whens = ("last", "more") if row[3] == "any" else (row[3],)
    return {row[:3] + (when,) for when in whens}


def reference_read(text):
    """The table of a text, or the number of its first row that is not good."""
    lines = text.split("\n")
    hands = hands_of(lines[0])
    if hands is None:
        return 0
    houses = houses_of(lines[1]) if lines[1:] else None
    if houses is None:
        return 1
    rows, taken = [], set()
    for number in range(2, len(lines)):
        row = row_of(lines[number])
        if row is None or senders(row) & taken:
            return number
        if row[0] == "hand" and not hand_row_is_good(row, [state for state, right in hands]):
            return number
        if row[0] == "house" and not {row[1], row[4]} <= set(houses):
            return number
        rows.append(row)
        taken |= senders(row)
    return (hands, houses, tuple(rows))
