"""Slow reckonings of what the document promises, by other ways than the program's."""

import itertools
import re

from samples import ASKED_FREE, MARK_FREE, NO_WAY, PLAIN, ROOT, STEP_FREE

PAIR = "~(?!25|7[fF])[2-7][0-9a-fA-F]"


def sign_in(free):
    return "(?:[" + re.escape(PLAIN + free) + "]|" + PAIR + ")"


SCHEME = "[A-Za-z][A-Za-z0-9]{0,7}:"
DOOR = ":(?:0|[1-9][0-9]{0,3}|[1-5][0-9]{4}|6[0-4][0-9]{3}|65[0-4][0-9]{2}|655[0-2][0-9]|6553[0-5])"
HOUSE = "//" + sign_in("") + "{1,60}(?:" + DOOR + ")?"
STEP = sign_in(STEP_FREE) + "+"
STEPS = "(?:" + STEP + "(?:/" + STEP + ")*/?)?"
ASKED = sign_in(ASKED_FREE) + "+(?:=" + sign_in(ASKED_FREE) + "*)?"
QUESTION = "\\?(?:" + ASKED + "(?:&" + ASKED + ")*)?"
MARK = "#" + sign_in(MARK_FREE) + "*"
ROOTED = "(?:/" + STEPS + ")?"
ADDRESS = re.compile(
    "(?:" + SCHEME + HOUSE + ROOTED + "|" + SCHEME + ROOTED + "|" + HOUSE + ROOTED + "|/?" + STEPS + ")"
    + "(?:" + QUESTION + ")?(?:" + MARK + ")?")

# What must follow is never longer than a pair's two figures, a house's sign, a door's figure or a name's sign.
GOING_ON = [""] + ["".join(signs) for count in (1, 2) for signs in itertools.product("027aeF", repeat=count)]


def writes(text):
    """Whether the text writes an address, by [8] to [10]."""
    return ADDRESS.fullmatch(text) is not None


def goes_on(text):
    """Whether any text that begins with this one writes an address."""
    return any(writes(text + behind) for behind in GOING_ON)


def place_of(text):
    """Point [14] by its words: None where the text writes an address."""
    if writes(text):
        return None
    for at in range(len(text)):
        if not goes_on(text[:at + 1]):
            return at
    return len(text)


def all_writings(text, free):
    """All texts that [10] lets stand for this one: each sign as itself or by its pair."""
    ways = []
    for sign in text:
        pair = format(ord(sign), "02x")
        ways.append(sorted({"~" + pair, "~" + pair.upper()}) + [sign] * (sign in PLAIN + free))
    return ["".join(signs) for signs in itertools.product(*ways)]


def address_writings(address):
    """All texts that write the address, by [8] to [10]."""
    scheme, house, door, (rooted, steps, ends), question, mark = address
    rows = [[scheme + ":" if scheme else ""]]
    if house is not None:
        rows += [["//"], all_writings(house, ""), ["" if door is None else f":{door}"]]
    if steps:
        rows.append(["/" if rooted else ""])
        for place, step in enumerate(steps):
            rows += [["/" if place else ""], all_writings(step, STEP_FREE)]
        rows.append(["/" if ends else ""])
    elif rooted:
        rows.append(["/", ""] if scheme or house is not None else ["/"])
    if question is not None:
        rows.append(["?"])
        for place, (name, value) in enumerate(question):
            rows += [["&" if place else ""], all_writings(name, ASKED_FREE)]
            if value is not None:
                rows += [["="], all_writings(value, ASKED_FREE)]
    if mark is not None:
        rows += [["#"], all_writings(mark, MARK_FREE)]
    return ["".join(texts) for texts in itertools.product(*rows)]


def slowly_gone(way):
    """Points [15] and [16] by another way: one dot at a time is struck out, with what it takes away."""
    rooted, steps, ends = way
    left = list(steps)
    place = 0
    while place < len(left):
        if left[place] == ".":
            del left[place]
        elif left[place] == ".." and place > 0 and left[place - 1] != "..":
            del left[place - 1:place + 1]
            place -= 1
        elif left[place] == ".." and rooted:
            del left[place]
        else:
            place += 1
    if not left and rooted:
        return ROOT
    if not left:
        return (False, (".",), True) if steps else NO_WAY
    return (rooted, tuple(left), ends or steps[-1] in (".", ".."))


def slow_holder(way):
    rooted, steps, ends = slowly_gone(way)
    return steps if ends else steps[:-1]


def slowly_resolved(base, address):
    """Point [18] by its words, of a whole base."""
    base_scheme, base_house, base_door, base_way, base_question, base_mark = base
    scheme, house, door, way, question, mark = address
    if not scheme:
        scheme = base_scheme
        if house is None:
            house, door = base_house, base_door
            if not way[0] and way[1]:
                way = (True, slow_holder(base_way) + way[1], way[2])
            elif not way[0]:
                way = base_way
                question = base_question if question is None else question
    return (scheme, house, door, slowly_gone(way), question, mark)


def slowly_relative(base, goal):
    """Points [20] and [21] by their words, of two whole addresses."""
    base_scheme, base_house, base_door, base_way, base_question, base_mark = base
    scheme, house, door, way, question, mark = goal
    base_way, way = slowly_gone(base_way), slowly_gone(way)
    if scheme != base_scheme or (base_house is not None and house is None):
        return (scheme, house, door, way, question, mark)
    if (house, door) != (base_house, base_door):
        return ("", house, door, way, question, mark)
    if way == base_way and (question is not None or base_question is None):
        return ("", None, None, NO_WAY, None if question == base_question else question, mark)
    up, down = list(slow_holder(base_way)), list(slow_holder(way))
    while up and down and up[0] == down[0]:
        del up[0], down[0]
    steps = [".."] * len(up) + down + ([] if way[2] else [way[1][-1]])
    return ("", None, None, (False, tuple(steps or ["."]), way[2]), question, mark)
