"""Whole numbers, and how they are written and read."""

FIGURES = "0123456789"
MOST_FIGURES = 6


def is_whole(thing):
    # Python counts True and False among its whole numbers; here they are none.
    return isinstance(thing, int) and not isinstance(thing, bool)


def is_among(thing, least, most):
    return is_whole(thing) and least <= thing <= most


def number_text(number):
    # Python refuses to write thousands of figures at once, so they are written in parts.
    rest = abs(number)
    parts = []
    while rest >= 10 ** 64:
        parts.append(str(rest % 10 ** 64).zfill(64))
        rest = rest // 10 ** 64
    parts.append(str(rest))
    minus = "-" if number < 0 else ""
    return minus + "".join(reversed(parts))


def number_of(text):
    if not is_among(len(text), 1, MOST_FIGURES):
        return None
    # Python's int reads more than the ten figures: blanks around them, and other scripts' figures.
    if not all([sign in FIGURES for sign in text]):
        return None
    if text[0] == "0" and text != "0":
        return None
    return int(text)
