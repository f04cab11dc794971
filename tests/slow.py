"""Slow reckonings of what the document promises, by other ways than the program's."""

import itertools
import re

from samples import ASKED_FREE, MARK_FREE, NO_WAY, PLAIN, ROOT, STEP_FREE, gaps_of, name_in

PAIR = "~(?!25|7[fF])[2-7][0-9a-fA-F]"


def sign_in(free):
    return "(?:[" + re.escape(PLAIN + free) + "]|" + PAIR + ")"


SCHEME = "[A-Za-z][A-Za-z0-9]{0,7}:"
DOOR = ":(?:0|[1-9][0-9]{0,3}|[1-5][0-9]{4}|6[0-4][0-9]{3}|65[0-4][0-9]{2}|655[0-2][0-9]|6553[0-5])"
HOUSE = "//" + sign_in("") + "{1,60}(?:" + DOOR + ")?"
STEP = sign_in(STEP_FREE) + "+"
STEPS = "(?:" + STEP + "(?:/" + STEP + ")*/?)?"
ASKED = sign_in(ASKED_FREE) + "+(?:=" + sign_in(ASKED_FREE) + "*)?"
QUESTION = "\\?(?:" + ASKED + "(?:&" + ASKED + ")*)?"
MARK = "#" + sign_in(MARK_FREE) + "*"
ROOTED = "(?:/" + STEPS + ")?"
ADDRESS = re.compile(
    "(?:" + SCHEME + HOUSE + ROOTED + "|" + SCHEME + ROOTED + "|" + HOUSE + ROOTED + "|/?" + STEPS + ")"
    + "(?:" + QUESTION + ")?(?:" + MARK + ")?")

# What must follow is never longer than a pair's two figures, a house's sign, a door's figure or a name's sign.
GOING_ON = [""] + ["".join(signs) for count in (1, 2) for signs in itertools.product("027aeF", repeat=count)]


def writes(text):
    """Whether the text writes an address, by [8] to [10]."""
    return ADDRESS.fullmatch(text) is not None


def goes_on(text):
    """Whether any text that begins with this one writes an address."""
    return any(writes(text + behind) for behind in GOING_ON)


def place_of(text):
    """Point [14] by its words: None where the text writes an address."""
    if writes(text):
        return None
    for at in range(len(text)):
        if not goes_on(text[:at + 1]):
            return at
    return len(text)


def all_writings(text, free):
    """All texts that [10] lets stand for this one: each sign as itself or by its pair."""
    ways = []
    for sign in text:
        pair = format(ord(sign), "02x")
        ways.append(sorted({"~" + pair, "~" + pair.upper()}) + [sign] * (sign in PLAIN + free))
    return ["".join(signs) for signs in itertools.product(*ways)]


def address_writings(address):
    """All texts that write the address, by [8] to [10]."""
    scheme, house, door, (rooted, steps, ends), question, mark = address
    rows = [[scheme + ":" if scheme else ""]]
    if house is not None:
        rows += [["//"], all_writings(house, ""), ["" if door is None else f":{door}"]]
    if steps:
        rows.append(["/" if rooted else ""])
        for place, step in enumerate(steps):
            rows += [["/" if place else ""], all_writings(step, STEP_FREE)]
        rows.append(["/" if ends else ""])
    elif rooted:
        rows.append(["/", ""] if scheme or house is not None else ["/"])
    if question is not None:
        rows.append(["?"])
        for place, (name, value) in enumerate(question):
            rows += [["&" if place else ""], all_writings(name, ASKED_FREE)]
            if value is not None:
                rows += [["="], all_writings(value, ASKED_FREE)]
    if mark is not None:
        rows += [["#"], all_writings(mark, MARK_FREE)]
    return ["".join(texts) for texts in itertools.product(*rows)]


def slowly_gone(way):
    """Points [15] and [16] by another way: one dot at a time is struck out, with what it takes away."""
    rooted, steps, ends = way
    left = list(steps)
    place = 0
    while place < len(left):
        if left[place] == ".":
            del left[place]
        elif left[place] == ".." and place > 0 and left[place - 1] != "..":
            del left[place - 1:place + 1]
            place -= 1
        elif left[place] == ".." and rooted:
            del left[place]
        else:
            place += 1
    if not left and rooted:
        return ROOT
    if not left:
        return (False, (".",), True) if steps else NO_WAY
    return (rooted, tuple(left), ends or steps[-1] in (".", ".."))


def slow_holder(way):
    rooted, steps, ends = slowly_gone(way)
    return steps if ends else steps[:-1]


def slowly_resolved(base, address):
    """Point [18] by its words, of a whole base."""
    base_scheme, base_house, base_door, base_way, base_question, base_mark = base
    scheme, house, door, way, question, mark = address
    if not scheme:
        scheme = base_scheme
        if house is None:
            house, door = base_house, base_door
            if not way[0] and way[1]:
                way = (True, slow_holder(base_way) + way[1], way[2])
            elif not way[0]:
                way = base_way
                question = base_question if question is None else question
    return (scheme, house, door, slowly_gone(way), question, mark)


def slowly_relative(base, goal):
    """Points [20] and [21] by their words, of two whole addresses."""
    base_scheme, base_house, base_door, base_way, base_question, base_mark = base
    scheme, house, door, way, question, mark = goal
    base_way, way = slowly_gone(base_way), slowly_gone(way)
    if scheme != base_scheme or (base_house is not None and house is None):
        return (scheme, house, door, way, question, mark)
    if (house, door) != (base_house, base_door):
        return ("", house, door, way, question, mark)
    if way == base_way and (question is not None or base_question is None):
        return ("", None, None, NO_WAY, None if question == base_question else question, mark)
    up, down = list(slow_holder(base_way)), list(slow_holder(way))
    while up and down and up[0] == down[0]:
        del up[0], down[0]
    steps = [".."] * len(up) + down + ([] if way[2] else [way[1][-1]])
    return ("", None, None, (False, tuple(steps or ["."]), way[2]), question, mark)


NO_DOT = "(?!\\.\\.?(?:\n|\\Z))"
STEP_BOUND = NO_DOT + "[^\n]+"


def piece_pattern(piece):
    """What fits the piece, by [28], as Python's own pattern over steps with a row's end between two."""
    if piece[0] == "step":
        return NO_DOT + re.escape(piece[1])
    if piece[0] == "part":
        return NO_DOT + re.escape(piece[1]) + "(?P<" + piece[2] + ">[^\n]+)" + re.escape(piece[3])
    inside = {"number": "0|[1-9][0-9]{0,59}", "word": "[a-z]{1,60}", "gap": STEP_BOUND,
              "rest": STEP_BOUND + "(?:\n" + STEP_BOUND + ")*"}[piece[0]]
    return "(?P<" + piece[1] + ">" + inside + ")"


def fitting_pattern(pattern):
    return re.compile("\n".join(piece_pattern(piece) for piece in pattern[0]) + "\\Z")


def slowly_fits(pattern, way):
    return slowly_found(pattern, way) is not None


def slowly_found(pattern, way):
    rooted, steps, ends = way
    return fitting_pattern(pattern).match("\n".join(steps)) if rooted and ends == pattern[1] else None


def slowly_bound(pattern, way):
    """Points [29] and [30] by another way."""
    found = slowly_found(pattern, way)
    if found is None:
        return None
    values = []
    for gap in gaps_of(pattern):
        text = found.group(name_in(gap))
        values.append((name_in(gap), {"number": int, "rest": lambda rest: rest.split("\n")}.get(gap[0], str)(text)))
    return values


def is_some_text(thing):
    return isinstance(thing, str) and re.fullmatch("[ -$&-~]+", thing) is not None


def is_some_step(thing):
    return is_some_text(thing) and thing not in (".", "..")


def is_due_value(gap, value):
    """Whether the value is of the gap's kind, by [31]."""
    if gap[0] == "part":
        return is_some_text(value) and is_some_step(gap[1] + value + gap[3])
    if gap[0] == "number":
        return isinstance(value, int) and not isinstance(value, bool) and value in range(10 ** 60)
    if gap[0] == "word":
        return isinstance(value, str) and re.fullmatch("[a-z]{1,60}", value) is not None
    if gap[0] == "rest":
        return isinstance(value, list) and value != [] and all(is_some_step(text) for text in value)
    return is_some_step(value)


def name_refused(pattern, values):
    """The name with which [31] refuses the values; None where it takes them."""
    for gap in gaps_of(pattern):
        named = [value for name, value in values if name == name_in(gap)]
        if len(named) != 1 or not is_due_value(gap, named[0]):
            return name_in(gap)
    others = [name for name, value in values if name not in [name_in(gap) for gap in gaps_of(pattern)]]
    return others[0] if others else None


def slowly_filled(pattern, values):
    """Point [31] by its words, of values that it takes."""
    steps = []
    for piece in pattern[0]:
        if piece[0] == "step":
            steps.append(piece[1])
            continue
        value = dict(values)[name_in(piece)]
        if piece[0] == "part":
            steps.append("".join((piece[1], value, piece[3])))
        elif piece[0] == "rest":
            steps += value
        else:
            steps.append(f"{value}")
    return (True, tuple(steps), pattern[1])


def all_ways(texts, counts):
    """All rooted ways of these texts, of so many steps, ending and not."""
    ways = []
    for count in counts:
        for steps in itertools.product(texts, repeat=count):
            ways += [(True, steps, ends) for ends in ((False, True) if count else (True,))]
    return ways


def ways_that_fit(pattern, ways):
    fitting = fitting_pattern(pattern)
    return frozenset((True, steps, ends) for rooted, steps, ends in ways
                     if rooted and ends == pattern[1] and fitting.match("\n".join(steps)))


def slowly_led_on(rules, way):
    """Point [41] by its words."""
    for source, goal in rules:
        values = slowly_bound(source, way)
        if values is not None:
            asked = [(name, value) for name, value in values if name in [name_in(gap) for gap in gaps_of(goal)]]
            if name_refused(goal, asked) is None:
                return slowly_filled(goal, asked)
    return None


def slow_trail(rules, way, most):
    """Point [42] by its words: the ways first, however many, and then the end of those that count."""
    ways = [way]
    while len(ways) <= most and ways[-1] not in ways[:-1] and slowly_led_on(rules, ways[-1]) is not None:
        ways.append(slowly_led_on(rules, ways[-1]))
    if slowly_led_on(rules, ways[-1]) is None:
        return ("rests", ways)
    return ("ring" if ways[-1] in ways[:-1] else "more", ways)
