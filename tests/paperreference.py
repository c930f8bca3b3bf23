"""A second reader of papers and deeds, by patterns, that the package's readers are held against."""

import re

from tests.reference import KIND, WORD

LETTER = rf"{KIND}\.(?:bare|last|old)"
WAY = rf"(-|{LETTER}(?:\+{LETTER})?)"
LINE = re.compile(f"({WORD}) (none|last|old) {WAY} {WAY} (-|s|o|so) (one|some|any)")
SHAPE = re.compile(f"({WORD}) (none|last|old)(?:: (.*))?")
PLACE = "(0|[1-9][0-9]?)"
NUMBER = "(0|-?[1-9][0-9]{0,39})"
DEEDS = [re.compile(form) for form in (
    f"(ask) {PLACE} (read|drop)", f"(ask) {PLACE} (write) {NUMBER}", f"(take|get) {PLACE} {PLACE}")]


def way_of(word):
    return () if word == "-" else tuple(tuple(letter.split(".")) for letter in word.split("+"))


def line_of(part):
    found = LINE.fullmatch(part)
    if not found:
        return None
    state, mark, to, back, flags, count = found.groups()
    return ((state, mark, way_of(to), way_of(back), ("s" in flags) + 2 * ("o" in flags)), count)


def shape_of_row(row):
    found = SHAPE.fullmatch(row)
    if not found:
        return None
    state, mark, told = found.groups()
    lines = [] if told is None else [line_of(part) for part in told.split("; ")]
    if None in lines:
        return None
    configs = [config for config, count in lines]
    if any(not one < other for one, other in zip(configs, configs[1:])):
        return None
    return (state, mark, tuple(lines))


def deed_of_row(row):
    for form in DEEDS:
        found = form.fullmatch(row)
        if found:
            return tuple(int(word) if word[-1].isdigit() else word for word in found.groups())
    return None


def reference_rows(text, row_of):
    """The things that the rows of a text tell, or the number of the first one that tells none."""
    told = []
    for number, row in enumerate(text.split("\n") if text else []):
        thing = row_of(row)
        if thing is None:
            return number
        told.append(thing)
    return told
