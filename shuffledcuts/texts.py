"""Sums over compositions as texts, written and read."""

from shuffledcuts.compositions import GREATEST_NUMBER
from shuffledcuts.errors import NotText
from shuffledcuts.sums import gathered

DIGITS = "0123456789"
GREATEST_FACTOR = 1000000000
MOST_TERMS = 200


def term_text(composition, k):
    """Return the text of a term, with its sign between blanks ahead of it."""
    sign = " + " if k > 0 else " - "
    factor = "" if abs(k) == 1 else str(abs(k))
    entries = " ".join([str(entry) for entry in composition])
    return f"{sign}{factor}({entries})"


def written(one):
    """Return the text of a sum over compositions."""
    if not one:
        return "0"
    text = "".join([term_text(thing, k) for thing, k in one])
    first = text[len(" + "):]
    return first if one[0][1] > 0 else "-" + first


def read_sign(text, at, sign):
    """Return the place behind a sign that must stand at a place."""
    if text[at:at + 1] != sign:
        raise NotText(at)
    return at + 1


def read_decimal(text, at, most):
    """Return the integer from 1 to most, without a leading zero, that begins at a place, and the place behind it."""
    value = 0
    while at < len(text) and text[at] in DIGITS:
        value = value * 10 + DIGITS.index(text[at])
        if value == 0 or value > most:
            raise NotText(at)
        at += 1
    if value == 0:
        raise NotText(at)
    return value, at


def read_factor(text, at):
    """Return the number of a term that begins at a place, and the place behind it."""
    if text[at:at + 1] == "(":
        return 1, at
    return read_decimal(text, at, GREATEST_FACTOR)


def read_composition(text, at):
    """Return the composition that begins at a place, and the place behind it."""
    at = read_sign(text, at, "(")
    if text[at:at + 1] == ")":
        return (), at + 1
    entries = []
    left = GREATEST_NUMBER
    while True:
        entry, at = read_decimal(text, at, left)
        entries.append(entry)
        left -= entry
        # With nothing left no entry can follow, so even a blank begins no text.
        if left == 0 or text[at:at + 1] == ")":
            return tuple(entries), read_sign(text, at, ")")
        at = read_sign(text, at, " ")


def read_joint(text, at):
    """Return 1 or -1, as the sign between two terms tells that begins at a place, and the place behind it."""
    at = read_sign(text, at, " ")
    if text[at:at + 1] == "-":
        return -1, read_sign(text, at + 1, " ")
    at = read_sign(text, at, "+")
    return 1, read_sign(text, at, " ")


def read_terms(text):
    """Return the terms (composition, number) of a text of a sum other than that of nothing, as they stand."""
    terms = []
    sign, at = (-1, 1) if text[:1] == "-" else (1, 0)
    while True:
        factor, at = read_factor(text, at)
        composition, at = read_composition(text, at)
        terms.append((composition, sign * factor))
        if at == len(text):
            return terms
        if len(terms) == MOST_TERMS:
            raise NotText(at)
        sign, at = read_joint(text, at)


def read_sum(text):
    """Return the sum whose text this is, or raise NotText."""
    if text == "0":
        return ()
    if text[:1] == "0":
        raise NotText(1)
    return gathered(read_terms(text))
