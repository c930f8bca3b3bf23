"""Figures: which words are whole numbers as they are written."""

FIGURES = "0123456789"


def is_number(word, most):
    if len(word) < 1 or len(word) > most:
        return False
    if not all([sign in FIGURES for sign in word]):
        return False
    return word == "0" or word[0] != "0"


def is_signed_number(word, most):
    if word.startswith("-"):
        return word != "-0" and is_number(word[1:], most)
    return is_number(word, most)
