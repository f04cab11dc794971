"""Patterns of ways: what one is, read from a text, and shown."""

from waymark.addresses import is_filled_text, is_tuple
from waymark.errors import NoPattern
from waymark.showing import slashed
from waymark.signs import FREE_IN_STEPS, SMALL_LETTERS, is_text, made_of, undone, written
from waymark.ways import is_dot

PIECES = 0
CLOSES = 1

MOST_PIECES = 12
LONGEST_NAME = 8

# The pieces that are a word and a name; all but a gap are written with their word.
NAMED_WORDS = ("number", "word", "gap", "rest")
WRITTEN_WORDS = ("number", "word", "rest")


def is_pattern(thing):
    if not is_tuple(thing, 2) or not isinstance(thing[PIECES], tuple) or not isinstance(thing[CLOSES], bool):
        return False
    return are_pieces(thing[PIECES]) and (thing[CLOSES] or len(thing[PIECES]) > 0)


def are_pieces(things):
    if len(things) > MOST_PIECES or not all([is_piece(thing) for thing in things]):
        return False
    return rests_stand_last(things) and names_are_unlike(things)


def is_piece(thing):
    if not isinstance(thing, tuple) or len(thing) == 0 or not isinstance(thing[0], str):
        return False
    if thing[0] == "step":
        return is_tuple(thing, 2) and is_filled_text(thing[1]) and not is_dot(thing[1])
    if thing[0] == "part":
        return is_tuple(thing, 4) and is_name(thing[2]) and are_ends_of_part(thing[1], thing[3])
    return thing[0] in NAMED_WORDS and is_tuple(thing, 2) and is_name(thing[1])


def are_ends_of_part(head, tail):
    return is_text(head) and is_text(tail) and head + tail != ""


def is_name(thing):
    return isinstance(thing, str) and 1 <= len(thing) <= LONGEST_NAME and made_of(thing, SMALL_LETTERS)


def rests_stand_last(pieces):
    return all([piece[0] != "rest" for piece in pieces[:-1]])


def names_are_unlike(pieces):
    names = names_of(pieces)
    return len(set(names)) == len(names)


def names_of(pieces):
    return [name_of(piece) for piece in pieces if is_gap(piece)]


def is_gap(piece):
    return piece[0] != "step"


def name_of(gap):
    return gap[2] if gap[0] == "part" else gap[1]


def head_of(piece):
    return piece[1] if piece[0] == "part" else ""


def tail_of(piece):
    return piece[3] if piece[0] == "part" else ""


def has_rest(pattern):
    pieces = pattern[PIECES]
    return len(pieces) > 0 and pieces[-1][0] == "rest"


# What is no piece is read as something that is_piece tells from one, so that one asking at the end is enough.
def read_pattern(text):
    if not isinstance(text, str) or not text.startswith("/"):
        raise NoPattern()
    texts = text[1:].split("/")
    ends = texts[-1] == ""
    pieces = tuple([read_piece(piece) for piece in (texts[:-1] if ends else texts)])
    if not is_pattern((pieces, ends)):
        raise NoPattern()
    return (pieces, ends)


def read_piece(text):
    opened = text.partition("{")
    if opened[1] == "":
        return ("step", undone(text, FREE_IN_STEPS))
    closed = opened[2].partition("}")
    if closed[1] == "":
        return None
    return read_gap(opened[0], closed[0], closed[2])


def read_gap(head, inside, tail):
    if head != "" or tail != "":
        return ("part", undone(head, FREE_IN_STEPS), inside, undone(tail, FREE_IN_STEPS))
    named = inside.partition(":")
    if named[1] == "":
        return ("gap", inside)
    return (named[2], named[0]) if named[2] in WRITTEN_WORDS else None


def show_pattern(pattern):
    return slashed(True, [shown_piece(piece) for piece in pattern[PIECES]], pattern[CLOSES])


def shown_piece(piece):
    if piece[0] == "step":
        return written(piece[1])
    if piece[0] == "part":
        return written(piece[1]) + "{" + piece[2] + "}" + written(piece[3])
    behind = ":" + piece[0] if piece[0] in WRITTEN_WORDS else ""
    return "{" + piece[1] + behind + "}"
