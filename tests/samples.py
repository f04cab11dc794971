"""Signs, addresses and things of other kinds that the tests ask about."""

import itertools
import string
import unittest

SIGNS = "".join(chr(number) for number in range(32, 127) if number != 37)
PLAIN = string.ascii_letters + string.digits + "-_."
STEP_FREE = "!$'()*,;@&=+"
ASKED_FREE = "!$'()*,;@+/?:"
MARK_FREE = "!$'()*,;@&=+/?:"
NO_SIGNS = ("\n", "\t", "\r", "\0", "\x1f", "a\n", "\na", "a\tb", "a\n\n", "x" * 7 + "\n")

ROOT = (True, (), True)
NO_WAY = (False, (), False)
BARE = ("", None, None, NO_WAY, None, None)
FULL = ("http", "a.b", 80, (True, ("x", "y"), False), (("q", "1"), ("r", None)), "m")
SCHEME, HOUSE, DOOR, WAY, QUESTION, MARK = range(6)

# Each part beside the text that shows it.
SHOWN_SCHEMES = (("", ""), ("x", "x:"), ("Http2", "Http2:"), ("abcdefgh", "abcdefgh:"))
SHOWN_HOUSES = (((None, None), ""), (("h", None), "//h"), (("h", 0), "//h:0"),
                ((" ~/:", 65535), "//~20~7e~2f~3a:65535"))
SHOWN_ROOTED = ((ROOT, "/"), ((True, ("a",), False), "/a"), ((True, ("a",), True), "/a/"),
                ((True, ("a", "..", "b/c"), False), "/a/../b~2fc"), ((True, (".", "x:"), True), "/./x~3a/"))
SHOWN_OTHERS = ((NO_WAY, ""), ((False, ("a",), False), "a"), ((False, ("a",), True), "a/"),
                ((False, ("..", "x:", "?"), False), "../x~3a/~3f"), ((False, ("x:", "b"), True), "x~3a/b/"))
SHOWN_QUESTIONS = ((None, ""), ((), "?"), ((("a", None),), "?a"), ((("a", ""),), "?a="), ((("a", "b"),), "?a=b"),
                   ((("a", None), ("a", ""), ("=", "&")), "?a&a=&~3d=~26"))
SHOWN_MARKS = ((None, ""), ("", "#"), ("m", "#m"), ("#/? ~", "#~23~2f~3f~20~7e"))


def shown_addresses():
    """Addresses with each part there and left out, in every mix, each beside the text that shows it."""
    told = []
    for scheme, house, way, question, mark in itertools.product(
            SHOWN_SCHEMES, SHOWN_HOUSES, SHOWN_ROOTED + SHOWN_OTHERS, SHOWN_QUESTIONS, SHOWN_MARKS):
        if way[0][0] or (scheme[0] == "" and house[0][0] is None):
            parts = (scheme, house, way, question, mark)
            address = (scheme[0],) + house[0] + (way[0], question[0], mark[0])
            told.append((address, "".join(text for part, text in parts)))
    return told


def chance_text(chance, least, most, signs=SIGNS):
    return "".join(chance.choices(signs, k=chance.randint(least, most)))


def chance_step(chance):
    return chance.choice([".", "..", "a", "b", "...", chance_text(chance, 1, 4)])


def chance_way(chance, rooted, most=5):
    steps = tuple(chance_step(chance) for turn in range(chance.randint(0, most)))
    return (rooted, steps, chance.random() < 0.5 if steps else rooted)


def chance_question(chance):
    if chance.random() < 0.4:
        return None
    return tuple((chance_text(chance, 1, 3), chance.choice([None, "", chance_text(chance, 0, 3)]))
                 for turn in range(chance.randint(0, 3)))


def chance_address(chance, whole=None):
    if whole is None:
        whole = chance.random() < 0.5
    scheme = chance.choice(["x", "X", "http", "a1"]) if whole else ""
    house = chance.choice([None, "h", "H", chance_text(chance, 1, 5)])
    door = None if house is None else chance.choice([None, 0, 80, chance.randint(0, 65535)])
    rooted = whole or house is not None or chance.random() < 0.4
    mark = chance.choice([None, "", chance_text(chance, 0, 3)])
    return (scheme, house, door, chance_way(chance, rooted), chance_question(chance), mark)


# Short texts of few signs, so that what is drawn of them often meets.
FEW_TEXTS = ("a", "b", "ab", "ba", "0", "1", "10", "01", "a1", "...", ".a", "a.", "a b", "/")
NAMES = ("a", "b", "c", "d", "e", "f", "g", "h", "i", "j", "k", "abcdefgh")


def chance_filled_text(chance):
    return chance.choice(FEW_TEXTS + (chance_text(chance, 1, 5),))


def chance_undotted(chance):
    text = chance_filled_text(chance)
    return "..." if text in (".", "..") else text


def chance_piece(chance, word, name):
    if word == "step":
        return ("step", chance_undotted(chance))
    if word == "part":
        head, tail = chance.choice(("", ".", chance_filled_text(chance))), chance.choice(("", ".", "a", "0"))
        return ("part", head, name, tail if head + tail else "b")
    return (word, name)


def chance_pattern(chance, most=4):
    names = chance.sample(NAMES, len(NAMES))
    words = chance.choices(("step", "part", "number", "word", "gap"), k=chance.randint(0, most))
    if words and chance.random() < 0.3:
        words[-1] = "rest"
    pieces = tuple(chance_piece(chance, word, name) for word, name in zip(words, names))
    return (pieces, chance.random() < 0.5 if pieces else True)


def chance_value(chance, piece):
    """A value of the kind that the gap asks for."""
    if piece[0] == "part":
        value = chance_filled_text(chance)
        return "..." if piece[1] + value + piece[3] == ".." else value
    if piece[0] == "number":
        return chance.choice((0, 1, 10, chance.randint(0, 10 ** 60 - 1)))
    if piece[0] == "word":
        return chance.choice(("a", "b", "ab", chance_text(chance, 1, 60, string.ascii_lowercase)))
    if piece[0] == "rest":
        return [chance_undotted(chance) for turn in range(chance.randint(1, 4))]
    return chance_undotted(chance)


def gaps_of(pattern):
    return [piece for piece in pattern[0] if piece[0] != "step"]


def name_in(gap):
    return gap[2] if gap[0] == "part" else gap[1]


def chance_values(chance, pattern):
    """Values that fill the pattern, in its order."""
    return [(name_in(gap), chance_value(chance, gap)) for gap in gaps_of(pattern)]


def chance_table(chance, most=16, pieces=4):
    names = chance.sample(NAMES + ("m", "n", "o", "p", "q", "r"), chance.randint(0, most))
    return [(name, chance_pattern(chance, pieces)) for name in names]


def chance_goal(chance, source):
    """A pattern, each gap of which has the name of a gap of the source that is a piece of the same word."""
    pieces = []
    for gap in chance.sample(gaps_of(source), chance.randint(0, len(gaps_of(source)))):
        if gap[0] != "rest":
            pieces.append(chance_piece(chance, gap[0], name_in(gap)))
    for turn in range(chance.randint(0, 2)):
        pieces.insert(chance.randint(0, len(pieces)), ("step", chance_undotted(chance)))
    rests = [gap for gap in gaps_of(source) if gap[0] == "rest" and chance.random() < 0.7]
    return (tuple(pieces + rests), chance.random() < 0.5 if pieces + rests else True)


def chance_rules(chance, most=8, pieces=3):
    sources = [chance_pattern(chance, pieces) for turn in range(chance.randint(0, most))]
    return [(source, chance_goal(chance, source)) for source in sources]


def with_part(address, place, part):
    return address[:place] + (part,) + address[place + 1:]


class Hostile:
    """A thing that can't be compared, counted, walked or tested for truth."""

    def fail(self, *others):
        raise RuntimeError("asked too much of")

    __eq__ = __ne__ = __lt__ = __le__ = __gt__ = __ge__ = __len__ = __iter__ = __bool__ = __getitem__ = fail
    __contains__ = __int__ = __index__ = __str__ = __hash__ = fail


def nested(kind, depth):
    thing = kind()
    for turn in range(depth - 1):
        thing = kind([thing])
    return thing


def nested_dicts(depth):
    thing = {}
    for turn in range(depth - 1):
        thing = {"a": thing}
    return thing


def of_other_kinds():
    return [0, 1, -1, 80, 10 ** 60, 1.5, 80.0, float("nan"), 1j, True, False, b"", b"a", bytearray(b"a"),
            [], ["a"], {}, {"a": "b"}, set(), {"a"}, frozenset(("a",)), range(3), object(), object, len, Hostile(),
            nested(tuple, 60), nested(list, 60), nested_dicts(60)]


def repr_of(thing):
    try:
        return repr(thing)
    except (RuntimeError, ValueError):
        return "a thing that can't be told"


class Telling(unittest.TestCase):
    def same(self, told, due, of=None):
        """The same, and of the same kinds: True isn't 1 here, nor a list a tuple."""
        self.assertEqual(repr(told), repr(due), of)

    def refused(self, refusal, ask, *things):
        with self.assertRaises(refusal) as caught:
            ask(*things)
        self.assertIs(caught.exception.__class__, refusal)
        return caught.exception
