"""Addresses shown as texts."""

from waymark.addresses import DOOR, ENDS, HOUSE, MARK, QUESTION, ROOTED, SCHEME, STEPS, WAY, is_whole
from waymark.signs import written


def show(address):
    scheme = address[SCHEME] + ":" if is_whole(address) else ""
    return (
        scheme
        + shown_house(address[HOUSE], address[DOOR])
        + shown_way(address[WAY])
        + shown_question(address[QUESTION])
        + shown_mark(address[MARK])
    )


def shown_house(house, door):
    if house is None:
        return ""
    behind = "" if door is None else ":" + str(door)
    return "//" + written(house) + behind


def shown_way(way):
    return slashed(way[ROOTED], [written(step) for step in way[STEPS]], way[ENDS])


# Without texts the one slash is the root's, so none is put for the end.
def slashed(rooted, texts, ends):
    ahead = "/" if rooted else ""
    behind = "/" if ends and len(texts) > 0 else ""
    return ahead + "/".join(texts) + behind


def shown_question(question):
    if question is None:
        return ""
    return "?" + "&".join([shown_asked(name, value) for name, value in question])


def shown_asked(name, value):
    return written(name) if value is None else written(name) + "=" + written(value)


def shown_mark(mark):
    return "" if mark is None else "#" + written(mark)
