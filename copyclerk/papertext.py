"""Papers and deeds as texts: written row by row, and read again."""

from copyclerk.errors import BadPaper
from copyclerk.figures import is_number, is_signed_number
from copyclerk.hall import WAY_HOLDS
from copyclerk.tables import is_kind, is_word

MARKS = ("none", "last", "old")
LETTER_MARKS = ("bare", "last", "old")
COUNTS = ("one", "some", "any")
# Each word stands at the place that its flags tell.
FLAGS = ("-", "s", "o", "so")
NO_LETTERS = "-"

FIGURES_OF_PLACE = 2
FIGURES_OF_NUMBER = 40


def paper_text(paper):
    return "\n".join([shape_text(shape) for shape in paper])


def shape_text(shape):
    head = spaced(shape[:2])
    lines = [spaced((config_text(config), count)) for config, count in shape[2]]
    if not lines:
        return head
    return head + ": " + "; ".join(lines)


def config_text(config):
    return spaced((config[0], config[1], way_text(config[2]), way_text(config[3]), FLAGS[config[4]]))


def way_text(way):
    if not way:
        return NO_LETTERS
    return "+".join([".".join(letter) for letter in way])


def deeds_text(deeds):
    return "\n".join([spaced(deed) for deed in deeds])


def spaced(parts):
    return " ".join([str(part) for part in parts])


def read_paper(text):
    return all_good([read_shape(row) for row in rows_of(text)])


def read_deeds(text):
    return all_good([read_deed(row) for row in rows_of(text)])


def rows_of(text):
    if not isinstance(text, str):
        raise BadPaper(0)
    return text.split("\n") if text else []


def all_good(things):
    if None in things:
        raise BadPaper(things.index(None))
    return things


def read_shape(row):
    halves = row.partition(": ")
    head = halves[0].split(" ")
    lines = [read_line(part) for part in halves[2].split("; ")] if halves[1] else []
    if len(head) != 2 or not is_word(head[0]) or head[1] not in MARKS:
        return None
    if None in lines or not are_in_order([line[0] for line in lines]):
        return None
    return (head[0], head[1], tuple(lines))


def are_in_order(configs):
    return configs == sorted(set(configs))


def read_line(part):
    words = part.split(" ")
    if len(words) != 6 or words[5] not in COUNTS:
        return None
    config = read_config(words)
    return None if config is None else (config, words[5])


def read_config(words):
    to = read_way(words[2])
    back = read_way(words[3])
    if not is_word(words[0]) or words[1] not in MARKS or words[4] not in FLAGS:
        return None
    if to is None or back is None:
        return None
    return (words[0], words[1], to, back, FLAGS.index(words[4]))


def read_way(word):
    if word == NO_LETTERS:
        return ()
    letters = [tuple(part.split(".")) for part in word.split("+")]
    if len(letters) > WAY_HOLDS or not all([is_letter(letter) for letter in letters]):
        return None
    return tuple(letters)


def is_letter(letter):
    return len(letter) == 2 and is_kind(letter[0]) and letter[1] in LETTER_MARKS


def read_deed(row):
    words = row.split(" ")
    if len(words) < 3 or not is_number(words[1], FIGURES_OF_PLACE):
        return None
    hand = int(words[1])
    if words[0] == "ask":
        return read_ask(hand, words[2:])
    if words[0] not in ("take", "get") or len(words) != 3:
        return None
    return (words[0], hand, int(words[2])) if is_number(words[2], FIGURES_OF_PLACE) else None


def read_ask(hand, words):
    if words == ["read"] or words == ["drop"]:
        return ("ask", hand, words[0])
    if len(words) == 2 and words[0] == "write" and is_signed_number(words[1], FIGURES_OF_NUMBER):
        return ("ask", hand, "write", int(words[1]))
    return None
