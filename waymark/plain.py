"""Plain forms of addresses and of their texts."""

from waymark.addresses import DOOR, HOUSE, SCHEME
from waymark.reading import read
from waymark.showing import show
from waymark.ways import with_way_gone


def plain(address):
    house = address[HOUSE]
    small_house = None if house is None else house.lower()
    return with_way_gone((address[SCHEME].lower(), small_house) + address[DOOR:])


def plain_text(text):
    return show(plain(read(text)))


def alike(one, other):
    return plain(one) == plain(other)
