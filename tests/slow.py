"""Slow reckonings of what the document promises, by other ways than the program's."""

import itertools
import re

from samples import ASKED_FREE, MARK_FREE, PLAIN, STEP_FREE

PAIR = "~(?!25|7[fF])[2-7][0-9a-fA-F]"


def sign_in(free):
    return "(?:[" + re.escape(PLAIN + free) + "]|" + PAIR + ")"


SCHEME = "[A-Za-z][A-Za-z0-9]{0,7}:"
DOOR = ":(?:0|[1-9][0-9]{0,3}|[1-5][0-9]{4}|6[0-4][0-9]{3}|65[0-4][0-9]{2}|655[0-2][0-9]|6553[0-5])"
HOUSE = "//" + sign_in("") + "{1,60}(?:" + DOOR + ")?"
STEP = sign_in(STEP_FREE) + "+"
STEPS = "(?:" + STEP + "(?:/" + STEP + ")*/?)?"
ASKED = sign_in(ASKED_FREE) + "+(?:=" + sign_in(ASKED_FREE) + "*)?"
QUESTION = "\\?(?:" + ASKED + "(?:&" + ASKED + ")*)?"
MARK = "#" + sign_in(MARK_FREE) + "*"
ROOTED = "(?:/" + STEPS + ")?"
ADDRESS = re.compile(
    "(?:" + SCHEME + HOUSE + ROOTED + "|" + SCHEME + ROOTED + "|" + HOUSE + ROOTED + "|/?" + STEPS + ")"
    + "(?:" + QUESTION + ")?(?:" + MARK + ")?")

# What must follow is never longer than a pair's two figures, a house's sign, a door's figure or a name's sign.
GOING_ON = [""] + ["".join(signs) for count in (1, 2) for signs in itertools.product("027aeF", repeat=count)]


def writes(text):
    """Whether the text writes an address, by [8] to [10]."""
    return ADDRESS.fullmatch(text) is not None


def goes_on(text):
    """Whether any text that begins with this one writes an address."""
    return any(writes(text + behind) for behind in GOING_ON)


def place_of(text):
    """Point [14] by its words: None where the text writes an address."""
    if writes(text):
        return None
    for at in range(len(text)):
        if not goes_on(text[:at + 1]):
            return at
    return len(text)


def all_writings(text, free):
    """All texts that [10] lets stand for this one: each sign as itself or by its pair."""
    ways = []
    for sign in text:
        pair = format(ord(sign), "02x")
        ways.append(sorted({"~" + pair, "~" + pair.upper()}) + [sign] * (sign in PLAIN + free))
    return ["".join(signs) for signs in itertools.product(*ways)]


def address_writings(address):
    """All texts that write the address, by [8] to [10]."""
    scheme, house, door, (rooted, steps, ends), question, mark = address
    rows = [[scheme + ":" if scheme else ""]]
    if house is not None:
        rows += [["//"], all_writings(house, ""), ["" if door is None else f":{door}"]]
    if steps:
        rows.append(["/" if rooted else ""])
        for place, step in enumerate(steps):
            rows += [["/" if place else ""], all_writings(step, STEP_FREE)]
        rows.append(["/" if ends else ""])
    elif rooted:
        rows.append(["/", ""] if scheme or house is not None else ["/"])
    if question is not None:
        rows.append(["?"])
        for place, (name, value) in enumerate(question):
            rows += [["&" if place else ""], all_writings(name, ASKED_FREE)]
            if value is not None:
                rows += [["="], all_writings(value, ASKED_FREE)]
    if mark is not None:
        rows += [["#"], all_writings(mark, MARK_FREE)]
    return ["".join(texts) for texts in itertools.product(*rows)]
