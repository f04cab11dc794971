"""What an address is: a tuple (scheme, house, door, way, question, mark)."""

from waymark.signs import LETTERS, LETTERS_AND_FIGURES, is_text, made_of

LONGEST_SCHEME = 8
LONGEST_HOUSE = 60
LAST_DOOR = 65535


def is_address(thing):
    return is_tuple(thing, 6) and parts_stand(thing) and parts_agree(thing)


def is_whole(address):
    return address[0] != ""


# Each part is asked for its kind ahead of all else, so that a thing of another kind is told, never stumbled over.
def parts_stand(thing):
    return (
        is_scheme(thing[0])
        and is_house(thing[1])
        and is_door(thing[2])
        and is_way(thing[3])
        and is_question(thing[4])
        and is_text_or_none(thing[5])
    )


def parts_agree(address):
    has_house = address[1] is not None
    if address[2] is not None and not has_house:
        return False
    rooted = address[3][0]
    return rooted or not (is_whole(address) or has_house)


def is_scheme(thing):
    if not is_text(thing) or len(thing) > LONGEST_SCHEME:
        return False
    return made_of(thing[:1], LETTERS) and made_of(thing, LETTERS_AND_FIGURES)


def is_house(thing):
    return thing is None or (is_filled_text(thing) and len(thing) <= LONGEST_HOUSE)


def is_door(thing):
    return thing is None or (is_whole_number(thing) and 0 <= thing <= LAST_DOOR)


def is_way(thing):
    if not is_tuple(thing, 3):
        return False
    if not (isinstance(thing[0], bool) and is_steps(thing[1]) and isinstance(thing[2], bool)):
        return False
    return len(thing[1]) > 0 or thing[0] == thing[2]


def is_steps(thing):
    return isinstance(thing, tuple) and all([is_filled_text(step) for step in thing])


def is_question(thing):
    return thing is None or (isinstance(thing, tuple) and all([is_asked(pair) for pair in thing]))


def is_asked(thing):
    return is_tuple(thing, 2) and is_filled_text(thing[0]) and is_text_or_none(thing[1])


def is_tuple(thing, count):
    return isinstance(thing, tuple) and len(thing) == count


def is_filled_text(thing):
    return is_text(thing) and len(thing) > 0


def is_text_or_none(thing):
    return thing is None or is_text(thing)


# A truth is an int to Python, but no whole number here.
def is_whole_number(thing):
    return isinstance(thing, int) and not isinstance(thing, bool)
