"""Numbers, points and names as texts."""

from nearland.errors import NoNumber
from nearland.numbers import fraction

FIGURES = "0123456789"
LETTERS = "abcdefghijklmnopqrstuvwxyz"


def has_only(text, signs):
    return all([sign in signs for sign in text])


def is_figures(text):
    return 1 <= len(text) <= 40 and has_only(text, FIGURES)


def is_name(text):
    small = text.lower()
    return 1 <= len(text) <= 12 and small[0] in LETTERS and has_only(small, LETTERS + FIGURES)


def read_number(text):
    parts = text.split("/")
    top = parts[0][1:] if text.startswith("-") else parts[0]
    bottom = "1" if len(parts) == 1 else parts[1]
    if len(parts) > 2 or not is_figures(top) or not is_figures(bottom):
        raise NoNumber("a number is one or more figures, perhaps with a - ahead and a / and figures behind")
    return fraction(int(parts[0]), int(bottom))


def show_number(one):
    top = one[0]
    bottom = one[1]
    return f"{top}" if bottom == 1 else f"{top}/{bottom}"


def show_point(X):
    return show_number(X[0]) + "," + show_number(X[1])
