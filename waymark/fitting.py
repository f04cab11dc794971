"""Ways that fit a pattern: what its gaps bind of them, and ways filled of values."""

from waymark.addresses import ENDS, ROOTED, STEPS, is_filled_text, is_whole_number
from waymark.errors import NoValue
from waymark.patterns import CLOSES, PIECES, has_rest, head_of, is_gap, name_of, names_of, tail_of
from waymark.signs import FIGURES, SMALL_LETTERS, made_of
from waymark.ways import is_dot

LONGEST_NUMBER = 60
LONGEST_WORD = 60


def bound(pattern, way):
    if not fits(pattern, way):
        return None
    values = []
    for place, piece in enumerate(pattern[PIECES]):
        if is_gap(piece):
            values.append((name_of(piece), bound_value(piece, way[STEPS][place:])))
    return values


def fits(pattern, way):
    steps = way[STEPS]
    pieces = spread(pattern, len(steps))
    if pieces is None or not way[ROOTED] or way[ENDS] != pattern[CLOSES]:
        return False
    return all([step_fits(piece, step) for piece, step in zip(pieces, steps)])


# A rest is told once for each step that it has, so that whoever goes from step to step needn't know of rests. None is
# told where no way of the pattern has so many steps.
def spread(pattern, count):
    pieces = pattern[PIECES]
    more = count - len(pieces)
    if has_rest(pattern) and more >= 0:
        return pieces + pieces[-1:] * more
    return pieces if more == 0 else None


def step_fits(piece, step):
    if is_dot(step):
        return False
    if piece[0] == "step":
        return step == piece[1]
    if piece[0] == "part":
        return fits_part(piece, step)
    if piece[0] == "number":
        return is_number(step)
    return is_word(step) if piece[0] == "word" else True


# Head and tail may not lie over one another, and something stands between them.
def fits_part(part, step):
    head = head_of(part)
    tail = tail_of(part)
    return step.startswith(head) and step.endswith(tail) and len(step) > len(head) + len(tail)


def is_number(text):
    if not 1 <= len(text) <= LONGEST_NUMBER or not made_of(text, FIGURES):
        return False
    return text == "0" or text[0] != "0"


def is_word(text):
    return 1 <= len(text) <= LONGEST_WORD and made_of(text, SMALL_LETTERS)


def bound_value(gap, steps):
    if gap[0] == "rest":
        return list(steps)
    if gap[0] == "number":
        return int(steps[0])
    return steps[0][len(head_of(gap)):len(steps[0]) - len(tail_of(gap))]


def filled(pattern, values):
    steps = []
    for piece in pattern[PIECES]:
        steps.extend(filled_steps(piece, values))
    refuse_others(pattern, values)
    return (True, tuple(steps), pattern[CLOSES])


def filled_steps(piece, values):
    if not is_gap(piece):
        return [piece[1]]
    named = [value for name, value in values if name == name_of(piece)]
    if len(named) != 1 or not is_value(piece, named[0]):
        raise NoValue(name_of(piece))
    return steps_of_value(piece, named[0])


def is_value(gap, value):
    if gap[0] == "rest":
        return isinstance(value, list) and len(value) > 0 and all([can_be_step(text) for text in value])
    if gap[0] == "number":
        return is_whole_number(value) and 0 <= value < 10 ** 60
    if gap[0] == "word":
        return isinstance(value, str) and is_word(value)
    return is_filled_text(value) and not is_dot(head_of(gap) + value + tail_of(gap))


def can_be_step(thing):
    return is_filled_text(thing) and not is_dot(thing)


def steps_of_value(gap, value):
    if gap[0] == "rest":
        return value
    if gap[0] == "number":
        return [str(value)]
    return [head_of(gap) + value + tail_of(gap)]


def refuse_others(pattern, values):
    names = names_of(pattern[PIECES])
    for name, value in values:
        if name not in names:
            raise NoValue(name)
