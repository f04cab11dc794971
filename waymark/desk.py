"""A desk that is at an address, has a table, and answers rows."""

from waymark.addresses import WAY, is_whole, is_whole_number
from waymark.errors import NoBase, NoName, NoRow
from waymark.meeting import meeting
from waymark.patterns import is_name, read_pattern
from waymark.plain import plain
from waymark.reading import read
from waymark.relative import relative
from waymark.resolving import resolved
from waymark.showing import show, shown_way
from waymark.signs import written
from waymark.tables import lead, pattern_named

MOST_PATTERNS = 16

# How many names stand behind each word, and the words behind which a text follows at last.
NAMES_BEHIND = {"at": 0, "go": 0, "link": 0, "add": 1, "lead": 0, "both": 2}
WITH_TEXT = ("go", "link", "add")


class Desk:
    def __init__(self, text):
        address = read(text)
        if not is_whole(address):
            raise NoBase()
        self.address = plain(address)
        self.table = []

    def say(self, row):
        asked = read_row(row)
        if asked[0] == "at":
            return show(self.address)
        if asked[0] == "go":
            return self.go(asked[1])
        if asked[0] == "link":
            return show(relative(self.address, self.goal_of(asked[1])))
        if asked[0] == "add":
            return self.put(asked[1], asked[2])
        if asked[0] == "lead":
            return shown_lead(lead(self.table, self.address[WAY]))
        return self.both(asked[1], asked[2])

    def goal_of(self, text):
        return plain(resolved(self.address, read(text)))

    def go(self, text):
        self.address = self.goal_of(text)
        return show(self.address)

    def put(self, name, text):
        if not is_name(name) or not has_room(self.table, name):
            raise NoName()
        self.table = with_entry(self.table, name, read_pattern(text))
        return "ok"

    def both(self, one, other):
        way = meeting(pattern_named(self.table, one), pattern_named(self.table, other))
        return "none" if way is None else shown_way(way)


# A text has all that follows, blanks too; a name ends at the next one.
def read_row(row):
    if not isinstance(row, str):
        raise NoRow()
    word = row.partition(" ")[0]
    if word not in NAMES_BEHIND:
        raise NoRow()
    count = 1 + NAMES_BEHIND[word]
    asked = row.split(" ", count) if word in WITH_TEXT else row.split(" ")
    if len(asked) != (count + 1 if word in WITH_TEXT else count) or "" in asked[:count]:
        raise NoRow()
    return asked


def has_room(table, name):
    return len(table) < MOST_PATTERNS or stands_in(table, name)


def stands_in(table, name):
    return name in [entry[0] for entry in table]


def with_entry(table, name, pattern):
    if stands_in(table, name):
        return [(name, pattern) if entry[0] == name else entry for entry in table]
    return table + [(name, pattern)]


def shown_lead(led):
    if led is None:
        return "none"
    return " ".join([led[0]] + [name + "=" + shown_value(value) for name, value in led[1]])


def shown_value(value):
    if isinstance(value, list):
        return ",".join([written(text) for text in value])
    return str(value) if is_whole_number(value) else written(value)
