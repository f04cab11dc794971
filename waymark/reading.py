"""Texts read as addresses, or refused with the place at which no address goes on."""

from waymark.addresses import LAST_DOOR, LONGEST_HOUSE, is_scheme
from waymark.errors import NoAddress
from waymark.signs import FIGURES, FREE_IN_MARKS, FREE_IN_QUESTIONS, FREE_IN_STEPS, PLAIN, sign_of

# Each other first figure would tell a number below 32 or above 126, whatever the second one is.
FIRST_FIGURES = "234567"


# A text and the place up to which it is read. Each taker below goes on over signs that some address has there, and
# stays at the first that none has: so the place at which one of them refuses, or at which the last of them stays, is
# the one that is asked for.
class Cursor:
    def __init__(self, text):
        self.text = text
        self.place = 0

    def at_end(self):
        return self.place == len(self.text)

    def sees(self, signs):
        return not self.at_end() and self.text[self.place] in signs

    def take(self):
        sign = self.text[self.place]
        self.place = self.place + 1
        return sign

    def passes(self, text):
        if not self.text.startswith(text, self.place):
            return False
        self.place = self.place + len(text)
        return True


def read(text):
    if not isinstance(text, str):
        raise NoAddress(0)
    cursor = Cursor(text)
    scheme = taken_scheme(cursor)
    house = taken_house(cursor)
    door = None if house is None else taken_door(cursor)
    way = taken_way(cursor, scheme != "" or house is not None)
    question = taken_question(cursor)
    mark = taken_mark(cursor)
    if not cursor.at_end():
        raise NoAddress(cursor.place)
    return (scheme, house, door, way, question, mark)


def taken_scheme(cursor):
    scheme = cursor.text.partition(":")[0]
    if scheme == "" or not is_scheme(scheme) or not cursor.passes(scheme + ":"):
        return ""
    return scheme


def taken_house(cursor):
    if not cursor.passes("//"):
        return None
    return taken_filled_text(cursor, "", LONGEST_HOUSE)


def taken_door(cursor):
    if not cursor.passes(":"):
        return None
    if not cursor.sees(FIGURES):
        raise NoAddress(cursor.place)
    door = int(cursor.take())
    # Behind a 0 that stands first no figure follows.
    while door > 0 and cursor.sees(FIGURES) and door_with(door, cursor) <= LAST_DOOR:
        door = door_with(door, cursor)
        cursor.take()
    return door


def door_with(door, cursor):
    return door * 10 + int(cursor.text[cursor.place])


def taken_way(cursor, must_be_rooted):
    rooted = cursor.passes("/")
    if must_be_rooted and not rooted:
        return (True, (), True)
    steps = []
    ends = rooted
    step = taken_text(cursor, FREE_IN_STEPS)
    while step != "":
        steps.append(step)
        ends = cursor.passes("/")
        step = taken_text(cursor, FREE_IN_STEPS)
    return (rooted, tuple(steps), ends)


def taken_question(cursor):
    if not cursor.passes("?"):
        return None
    name = taken_text(cursor, FREE_IN_QUESTIONS)
    if name == "":
        return ()
    pairs = [(name, taken_value(cursor))]
    while cursor.passes("&"):
        name = taken_filled_text(cursor, FREE_IN_QUESTIONS)
        pairs.append((name, taken_value(cursor)))
    return tuple(pairs)


def taken_value(cursor):
    return taken_text(cursor, FREE_IN_QUESTIONS) if cursor.passes("=") else None


def taken_mark(cursor):
    return taken_text(cursor, FREE_IN_MARKS) if cursor.passes("#") else None


def taken_filled_text(cursor, free, most=None):
    text = taken_text(cursor, free, most)
    if text == "":
        raise NoAddress(cursor.place)
    return text


def taken_text(cursor, free, most=None):
    signs = []
    allowed = PLAIN + free + "~"
    while (most is None or len(signs) < most) and cursor.sees(allowed):
        signs.append(taken_pair(cursor) if cursor.passes("~") else cursor.take())
    return "".join(signs)


def taken_pair(cursor):
    if not cursor.sees(FIRST_FIGURES):
        raise NoAddress(cursor.place)
    figures = cursor.take() + cursor.text[cursor.place:cursor.place + 1]
    sign = sign_of(figures)
    if sign is None:
        raise NoAddress(cursor.place)
    cursor.take()
    return sign
