"""Ways that fit two patterns."""

from waymark.fitting import spread, step_fits
from waymark.patterns import CLOSES, PIECES, head_of, is_gap, tail_of
from waymark.trials import fitting_texts, texts_around


# Of the ways that both may have, those with the fewest steps ask for the least: each step more would be one of two
# rests, which any text fits.
def meeting(one, other):
    count = max(len(one[PIECES]), len(other[PIECES]))
    mine = spread(one, count)
    theirs = spread(other, count)
    if one[CLOSES] != other[CLOSES] or mine is None or theirs is None:
        return None
    steps = [step_for_both(piece, beside) for piece, beside in zip(mine, theirs)]
    return None if None in steps else (True, tuple(steps), one[CLOSES])


def step_for_both(piece, beside):
    for text in texts_for_both(piece, beside):
        if step_fits(piece, text) and step_fits(beside, text):
            return text
    return None


# Of two heads that one text has, the longer begins with the other, and of two tails likewise; so what has the longer
# ones and a sign between has them all. No text with more between is a number or a word where none of these is.
def texts_for_both(piece, beside):
    if not is_gap(piece) or not is_gap(beside):
        return fitting_texts(piece) + fitting_texts(beside)
    head = max(head_of(piece), head_of(beside), key=len)
    return texts_around(head, max(tail_of(piece), tail_of(beside), key=len))
