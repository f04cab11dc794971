"""Ways led on by rules, tuples of two patterns (from, to)."""

from waymark.errors import NoValue
from waymark.fitting import bound, filled
from waymark.patterns import PIECES, names_of


def led_on(rules, way):
    for source, goal in rules:
        led = led_by_rule(source, goal, way)
        if led is not None:
            return led
    return None


# The goal may refuse what the source has bound: where its head or its tail makes a dot of the value.
def led_by_rule(source, goal, way):
    values = bound(source, way)
    if values is None:
        return None
    names = names_of(goal[PIECES])
    try:
        return filled(goal, [pair for pair in values if pair[0] in names])
    except NoValue:
        return None


def trail(rules, way, most=60):
    ways = [way]
    led = led_on(rules, way)
    while led is not None and len(ways) <= most:
        if led in ways:
            return ("ring", ways + [led])
        ways.append(led)
        led = led_on(rules, led)
    return ("rests" if led is None else "more", ways)
