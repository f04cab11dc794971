"""Addresses resolved against a base."""

from waymark.addresses import ENDS, HOUSE, MARK, QUESTION, ROOTED, SCHEME, STEPS, WAY, is_whole
from waymark.errors import NoBase
from waymark.ways import NO_WAY, holder, with_way_gone


def resolved(base, address):
    if not is_whole(base):
        raise NoBase()
    return with_way_gone(address if is_whole(address) else made_whole(base, address))


def made_whole(base, address):
    if address[HOUSE] is not None:
        return (base[SCHEME],) + address[HOUSE:]
    way = way_from(base[WAY], address[WAY])
    return base[:WAY] + (way, question_from(base, address), address[MARK])


def way_from(base_way, way):
    if way == NO_WAY:
        return base_way
    if way[ROOTED]:
        return way
    return (True, holder(base_way) + way[STEPS], way[ENDS])


# The base's question belongs to the base's way: it is kept only where this one is.
def question_from(base, address):
    stays = address[WAY] == NO_WAY and address[QUESTION] is None
    return base[QUESTION] if stays else address[QUESTION]
