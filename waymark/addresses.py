"""What an address is: a tuple (scheme, house, door, way, question, mark)."""

from waymark.signs import LETTERS, LETTERS_AND_FIGURES, is_text, made_of

SCHEME = 0
HOUSE = 1
DOOR = 2
WAY = 3
QUESTION = 4
MARK = 5

ROOTED = 0
STEPS = 1
ENDS = 2

LONGEST_SCHEME = 8
LONGEST_HOUSE = 60
LAST_DOOR = 65535


def is_address(thing):
    return is_tuple(thing, 6) and parts_stand(thing) and parts_agree(thing)


def is_whole(address):
    return address[SCHEME] != ""


# Each part is asked for its kind ahead of all else, so that a thing of another kind is told, never stumbled over.
def parts_stand(thing):
    return (
        is_scheme(thing[SCHEME])
        and is_house(thing[HOUSE])
        and is_door(thing[DOOR])
        and is_way(thing[WAY])
        and is_question(thing[QUESTION])
        and is_text_or_none(thing[MARK])
    )


def parts_agree(address):
    has_house = address[HOUSE] is not None
    if address[DOOR] is not None and not has_house:
        return False
    return address[WAY][ROOTED] or not (is_whole(address) or has_house)


def is_scheme(thing):
    if not is_text(thing) or len(thing) > LONGEST_SCHEME:
        return False
    return made_of(thing[:1], LETTERS) and made_of(thing, LETTERS_AND_FIGURES)


def is_house(thing):
    return thing is None or (is_filled_text(thing) and len(thing) <= LONGEST_HOUSE)


def is_door(thing):
    return thing is None or (is_whole_number(thing) and 0 <= thing <= LAST_DOOR)


def is_way(thing):
    if not is_tuple(thing, 3):
        return False
    if not (isinstance(thing[ROOTED], bool) and is_steps(thing[STEPS]) and isinstance(thing[ENDS], bool)):
        return False
    return len(thing[STEPS]) > 0 or thing[ROOTED] == thing[ENDS]


def is_steps(thing):
    return isinstance(thing, tuple) and all([is_filled_text(step) for step in thing])


def is_question(thing):
    return thing is None or (isinstance(thing, tuple) and all([is_asked(pair) for pair in thing]))


def is_asked(thing):
    return is_tuple(thing, 2) and is_filled_text(thing[0]) and is_text_or_none(thing[1])


def is_tuple(thing, count):
    return isinstance(thing, tuple) and len(thing) == count


def is_filled_text(thing):
    return is_text(thing) and len(thing) > 0


def is_text_or_none(thing):
    return thing is None or is_text(thing)


# A truth is an int to Python, but no whole number here.
def is_whole_number(thing):
    return isinstance(thing, int) and not isinstance(thing, bool)
