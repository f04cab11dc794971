"""Tables of patterns: where they lead ways, and the ways and addresses that they make."""

from waymark.addresses import WAY, is_whole
from waymark.errors import NoBase, NoName
from waymark.fitting import bound, filled, fits
from waymark.worth import worth_more


def lead(table, way):
    entries = [entry for entry in table if fits(entry[1], way)]
    if len(entries) == 0:
        return None
    best = worth_most(entries)
    return (best[0], bound(best[1], way))


# Of those worth as much the first stays.
def worth_most(entries):
    best = entries[0]
    for entry in entries[1:]:
        if worth_more(entry[1], best[1]):
            best = entry
    return best


def made(table, name, values):
    return filled(pattern_named(table, name), values)


def pattern_named(table, name):
    for entry_name, pattern in table:
        if entry_name == name:
            return pattern
    raise NoName()


def made_address(table, base, name, values, question=None, mark=None):
    if not is_whole(base):
        raise NoBase()
    return base[:WAY] + (made(table, name, values), question, mark)
