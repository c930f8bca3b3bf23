"""A second looker at papers and a second finder of papers and runs, by the models of shapes and of deeds."""

from tests.model import model_may, model_step, model_stuck
from tests.shapemodel import WAIT, house_rows, model_after, model_may_clash


def model_within(shape, other):
    if (shape[0], shape[1]) != (other[0], other[1]):
        return False
    here, there = dict(shape[2]), dict(other[2])
    if set(here) - set(there):
        return False
    return all({"one": here.get(config) == "one",
                "some": here.get(config) in ("one", "some"),
                "any": True}[there[config]] for config in there)


def model_may_be_stuck(table, shape, order):
    def comes(letter):
        row = house_rows(table, shape[0], letter[0]).get("any")
        return row is None or row[-1] != WAIT

    def sort_of(config):
        state, mark, to, back, flags = config
        if to or any(comes(letter) for letter in (back[:1] if order else back)):
            return "moves"
        return "waits" if back else "rests"

    sorts = [(sort_of(config), count) for config, count in shape[2]]
    return "waits" in dict(sorts) and not {("moves", "one"), ("moves", "some")} & set(sorts)


def model_start_shape(table):
    return (table[1][0], "last", (((table[0][0][0], "none", (), (), 0), "some"),))


def model_faults(table, shape, paper, order):
    """All faults of a shape, in their order; those of what lacks only beside a paper."""
    if model_may_clash(table, shape):
        yield ("clash", shape)
    if model_may_be_stuck(table, shape, order):
        yield ("stuck", shape)
    for word, fault, behind in model_after(table, shape, order):
        if fault:
            yield ("break", shape, word, fault)
        elif paper is not None and not any(model_within(behind, other) for other in paper):
            yield ("lacks", shape, word, behind)


def model_checked(table, paper, order):
    first = model_start_shape(table)
    if not any(model_within(first, other) for other in paper):
        return ("start", first)
    return next((fault for shape in paper for fault in model_faults(table, shape, paper, order)), None)


def model_loosened(shape):
    state, mark, pairs = shape
    return (state, mark, tuple(
        (config, "any") if config[2:] == ((), (), 0) else (config, count) for config, count in pairs))


def model_find_paper(table, order, most):
    found, looked = [model_loosened(model_start_shape(table))], 0
    while looked < len(found):
        shape = found[looked]
        fault = next(model_faults(table, shape, None, order), None)
        if fault:
            return ("fault", fault)
        for behind in [model_loosened(told[2]) for told in model_after(table, shape, order)]:
            if not any(model_within(behind, other) for other in found):
                found.append(behind)
        looked += 1
        if len(found) > most:
            return ("gave up",)
    return ("paper", found)


def thin(standing):
    state, store, last, lines = standing

    def value(told):
        return told and ((1, 0) if told[0] == last[0] else (0, 0))

    def way(letters):
        return tuple((kind, value(borne)) for kind, borne in letters)

    return (state, value(store), (1, 0),
            tuple((its, value(own), 0, way(to), way(back), flags) for its, own, want, to, back, flags in lines))


def model_find_run(table, many, order, most):
    line = (table[0][0][0], None, 0, (), (), 0)
    came = [((table[1][0], (1, 0), (1, 0), (line,) * many), [])]
    seen = {came[0][0]}
    for standing, deeds in came:
        if model_stuck(table, standing, order):
            return ("run", deeds, ("stuck",))
        for deed in model_may(table, standing, order):
            behind, answer, broken = model_step(table, standing, deed)
            if broken:
                return ("run", deeds + [deed], broken)
            if thin(behind) not in seen:
                seen.add(thin(behind))
                came.append((thin(behind), deeds + [deed]))
        if len(came) > most:
            return ("gave up",)
    return ("none", len(came))
