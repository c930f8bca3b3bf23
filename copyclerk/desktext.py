"""What a desk tells: faults, and what the finders found, as texts."""

from copyclerk.papertext import config_text, shape_text, spaced


def fault_text(fault):
    things = [fault[0], shape_text(fault[1])]
    if fault[0] == "break":
        things.extend([word_text(fault[2]), fault[3]])
    if fault[0] == "lacks":
        things.extend([word_text(fault[2]), shape_text(fault[3])])
    return " / ".join(things)


def word_text(word):
    return spaced((word[0], word[2], "by", config_text(word[1])))


def check_text(fault):
    return "good" if fault is None else fault_text(fault)


def found_paper_text(told):
    if told[0] == "paper":
        return "\n".join(["paper"] + [shape_text(shape) for shape in told[1]])
    if told[0] == "fault":
        return spaced(("fault", fault_text(told[1])))
    return told[0]


def found_run_text(told):
    if told[0] == "run":
        return "\n".join([spaced(("run", told[2][0]))] + [spaced(deed) for deed in told[1]])
    return spaced(told)


def yes_or_no(truth):
    return "yes" if truth else "no"


def listed(things):
    if not things:
        return "-"
    return ", ".join([spaced(thing) for thing in things])
