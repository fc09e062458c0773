"""Rows written as texts, and texts read as rows: one sign for each place."""

from keepaway.errors import BadText

LETTERS = "abcdefghijklmnopqrstuvwxyz"
EMPTY_SIGN = "."


def shown(row):
    return "".join([EMPTY_SIGN if kind is None else LETTERS[kind] for kind in row])


def read_sign(sign):
    if sign == EMPTY_SIGN:
        return None
    kind = LETTERS.find(sign)
    if kind < 0:
        raise BadText(f"no place is written as {sign!r}")
    return kind


def read(text):
    return [read_sign(sign) for sign in text]
