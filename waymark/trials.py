"""Texts to try on the pieces of patterns, where one is looked for that fits or fits not."""

from waymark.fitting import step_fits
from waymark.patterns import head_of, is_gap, tail_of

# Letters for words and figures for numbers, neither of which the other takes; and two of each, since a step, a head or
# a tail asks for one sign at a place, so that the other one is left. A 0 ahead of others is no number's, a 1 may be.
TRIED_SIGNS = "ab01"


def texts_around(head, tail):
    return [head + sign + tail for sign in TRIED_SIGNS]


def fitting_texts(piece):
    texts = texts_around(head_of(piece), tail_of(piece)) if is_gap(piece) else [piece[1]]
    return [text for text in texts if step_fits(piece, text)]
