"""Figures: numbers, and fractions as TOP/BOTTOM, read from them and shown in them."""

from scruplehouse.ratios import fraction

FIGURES = "0123456789"


def plain_number(text, most):
    """The number that one to so many figures write, without a 0 ahead of others; None for another text."""
    if text == "" or len(text) > most:
        return None
    if not all([sign in FIGURES for sign in text]):
        return None
    if text[0] == "0" and len(text) > 1:
        return None
    return int(text)


def plain_fraction(text, most):
    """The fraction that two such numbers write as TOP/BOTTOM in lowest terms; None for another text."""
    halves = text.split("/")
    if len(halves) != 2:
        return None
    top = plain_number(halves[0], most)
    bottom = plain_number(halves[1], most)
    if top is None or bottom is None or bottom == 0:
        return None
    if fraction(top, bottom) != (top, bottom):
        return None
    return (top, bottom)


def show_fraction(one):
    """The fraction as TOP/BOTTOM."""
    top = one[0]
    bottom = one[1]
    return f"{top}/{bottom}"
