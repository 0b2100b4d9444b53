"""What a row of a page says: its first word, and what each of its other words stands for."""

from nearland.errors import NoNumber
from nearland.texts import is_name, read_number

# What stands behind the first word: the name of a place, a name that is new, a number, or one of whole value.
KINDS = {
    "at": ("new", "whole", "whole"),
    "off": ("name",),
    "hold": ("name", "name"),
    "loose": ("name", "name"),
    "net": (),
    "land": ("name",),
    "near": ("number", "number"),
    "walk": ("name", "number", "number"),
    "pair": (),
    "border": (),
    "tree": (),
    "gap": (),
}


def words_of(text):
    return [word for word in text.split(" ") if word != ""]


def read_name(word):
    return word.lower() if is_name(word) else None


def number_or_none(word):
    try:
        return read_number(word)
    except NoNumber:
        return None


def read_word(kind, word):
    if kind in ("name", "new"):
        return read_name(word)
    number = number_or_none(word)
    if kind == "number" or number is None:
        return number
    return number[0] if number[1] == 1 else None


def read_words(kinds, words):
    # Told as pairs of a kind and a value; None where some word is not of its kind.
    if len(kinds) != len(words):
        return None
    values = [(two[0], read_word(two[0], two[1])) for two in zip(kinds, words)]
    return None if None in [two[1] for two in values] else values


def read_triples(text):
    triples = [words_of(part) for part in text.split(",")]
    if len(triples) > 60:
        return None
    values = []
    for words in triples:
        three = read_words(("name", "name", "name"), words)
        if three is None:
            return None
        values.extend(three)
    return values


def read_row(row):
    words = words_of(row)
    if words[0] == "judge":
        values = read_triples(row[len("judge"):])
    elif words[0] in KINDS:
        values = read_words(KINDS[words[0]], words[1:])
    else:
        values = None
    return None if values is None else (words[0], values)
