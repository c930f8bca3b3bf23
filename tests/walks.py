"""Tables, standings and shapes made by a seed, and standings that walks through a table come to."""

import random

from copyclerk.shapes import shape_of
from copyclerk.standings import start
from tests.model import all_deeds, model_step
from tests.samples import ASKS, HAND_ACTS, HOUSE_ACTS

KINDS = ("give", "get")
HANDS = (("idle", "none"), ("look", "read"), ("mine", "write"))
HOUSES = ("home", "out")
NUMBERS = (0, 1, -1, 25, -10 ** 39, 10 ** 40 - 1)


def chosen_acts(chance, acts):
    told = []
    for act in chance.choices(acts, k=chance.randrange(5)):
        if act not in (("tell",), ("put",)) or not set(told) & {("tell",), ("put",)}:
            told.append(act)
    return tuple((act[0], chance.choice(KINDS), act[2]) if len(act) == 3 else act for act in told)


def made_table(seed):
    """A table of three states of hands and two of the house; most of its rows are there."""
    chance = random.Random(seed)
    rows = []
    for state, right in HANDS:
        for event in ASKS + KINDS:
            acts = [act for act in HAND_ACTS if act != ("keep",) or event not in ASKS]
            if chance.random() < 0.85:
                after = chance.choice(("idle", "idle", "look", "mine"))
                rows.append(("hand", state, event, after, chosen_acts(chance, acts)))
    for state in HOUSES:
        for kind in KINDS:
            if chance.random() < 0.25:
                rows.append(("house", state, kind, "any", state, (("wait",),)))
                continue
            for when in chance.choice((("any",), ("last", "more"), ("last", "more"), ("last",), ("more",))):
                after = chance.choice(HOUSES)
                rows.append(("house", state, kind, when, after, chosen_acts(chance, HOUSE_ACTS)))
    chance.shuffle(rows)
    return (HANDS, HOUSES, tuple(rows))


def made_standing(chance, many, ahead=0):
    """A standing of a made table's states, whether or not a run comes to it.

    Its values are of versions up to last's, or as far ahead of that as told."""
    last = (chance.randrange(4), chance.choice(NUMBERS))

    def value():
        return chance.choice((None, last, last, (chance.randrange(last[0] + 1 + ahead), chance.choice(NUMBERS))))

    def way():
        return tuple((chance.choice(KINDS), value()) for _ in range(chance.randrange(3)))

    lines = tuple(
        (chance.choice(HANDS)[0], value(), chance.choice(NUMBERS), way(), way(), chance.randrange(4))
        for _ in range(many))
    return (chance.choice(HOUSES), value(), last, lines)


def with_numbers(chance, deed):
    return deed[:3] + (chance.choice(NUMBERS),) if len(deed) == 4 else deed


def walked(table, many, seed, length=40):
    """Standings and deeds, as one comes to them by doing what may be done; a break ends no walk."""
    chance = random.Random(seed)
    standing = start(table, many)
    for _ in range(length):
        deeds = [deed for deed in all_deeds(many) if model_step(table, standing, deed) is not None]
        if not deeds:
            return
        deed = with_numbers(chance, chance.choice(deeds))
        yield standing, deed
        standing = model_step(table, standing, deed)[0]


def made_shape(chance, many):
    """A shape of a made table's states, of at most so many configs, whether or not a run comes to it."""
    within = shape_of(made_standing(chance, many))
    pairs = [(config, chance.choice(("one", "some", "any"))) for config, count in within[2]]
    return within[:2] + (tuple(pairs),)


def wider(chance, shape, more):
    """A shape in which all lies that lies in the one told, with at most so many more configs of count any."""
    widths = {"one": ("one", "some", "any"), "some": ("some", "any"), "any": ("any",)}
    pairs = {config: "any" for config, count in made_shape(chance, more)[2]}
    pairs.update((config, chance.choice(widths[count])) for config, count in shape[2])
    return shape[:2] + (tuple(sorted(pairs.items())),)
