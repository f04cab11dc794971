"""Ways that fit one pattern and not another."""

from waymark.fitting import spread, step_fits
from waymark.patterns import CLOSES, PIECES, has_rest
from waymark.trials import fitting_texts


def beyond(one, other):
    count = count_to_try(one, other)
    mine = spread(one, count)
    theirs = spread(other, count)
    steps = [fitting_texts(piece)[0] for piece in mine]
    if one[CLOSES] != other[CLOSES] or theirs is None:
        return (True, tuple(steps), one[CLOSES])
    for place, piece in enumerate(mine):
        step = step_beyond(piece, theirs[place])
        if step is not None:
            return (True, tuple(steps[:place] + [step] + steps[place + 1:]), one[CLOSES])
    return None


# The fewest steps are those that another's rest may lack; where the other one has no rest, one step more than it has
# pieces is beyond it.
def count_to_try(one, other):
    count = len(one[PIECES])
    if has_rest(one) and not has_rest(other):
        return max(count, len(other[PIECES]) + 1)
    return count


def step_beyond(piece, beside):
    for text in fitting_texts(piece):
        if not step_fits(beside, text):
            return text
    return None
