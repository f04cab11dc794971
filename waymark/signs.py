"""Signs, the pairs that write them, and texts written and undone by pairs."""

SIGNS = " !\"#$&'()*+,-./0123456789:;<=>?@ABCDEFGHIJKLMNOPQRSTUVWXYZ[\\]^_`abcdefghijklmnopqrstuvwxyz{|}~"
SMALL_LETTERS = "abcdefghijklmnopqrstuvwxyz"
LETTERS = "abcdefghijklmnopqrstuvwxyzABCDEFGHIJKLMNOPQRSTUVWXYZ"
LETTERS_AND_FIGURES = "abcdefghijklmnopqrstuvwxyzABCDEFGHIJKLMNOPQRSTUVWXYZ0123456789"
FIGURES = "0123456789"
PLAIN = "abcdefghijklmnopqrstuvwxyzABCDEFGHIJKLMNOPQRSTUVWXYZ0123456789-_."

FREE_IN_STEPS = "!$'()*,;@&=+"
FREE_IN_QUESTIONS = "!$'()*,;@+/?:"
FREE_IN_MARKS = "!$'()*,;@&=+/?:"

FIRST_NUMBER = 32
LAST_NUMBER = 126
NUMBER_LEFT_OUT = 37

SMALL_FIGURES = "0123456789abcdef"
GREAT_FIGURES = "0123456789ABCDEF"


def is_text(thing):
    return isinstance(thing, str) and made_of(thing, SIGNS)


def made_of(text, signs):
    return all([sign in signs for sign in text])


def pair_of(sign):
    number = ord(sign)
    return "~" + SMALL_FIGURES[number // 16] + SMALL_FIGURES[number % 16]


def sign_of(figures):
    if len(figures) != 2:
        return None
    high = figure_number(figures[0])
    low = figure_number(figures[1])
    if high is None or low is None:
        return None
    return sign_numbered(high * 16 + low)


# Not int(figures, 16): that one takes blanks and signs such as + too.
def figure_number(figure):
    if figure in SMALL_FIGURES:
        return SMALL_FIGURES.index(figure)
    if figure in GREAT_FIGURES:
        return GREAT_FIGURES.index(figure)
    return None


def sign_numbered(number):
    if number < FIRST_NUMBER or number > LAST_NUMBER or number == NUMBER_LEFT_OUT:
        return None
    place = number - FIRST_NUMBER
    # SIGNS has no place for the number that is no sign's, so those behind it stand one nearer.
    if number > NUMBER_LEFT_OUT:
        place = place - 1
    return SIGNS[place]


def written(text):
    return "".join([sign if sign in PLAIN else pair_of(sign) for sign in text])


def undone(text, free=""):
    signs = []
    place = 0
    while place < len(text):
        width = 3 if text[place] == "~" else 1
        sign = sign_written(text[place:place + width], free)
        if sign is None:
            return None
        signs.append(sign)
        place = place + width
    return "".join(signs)


def sign_written(piece, free):
    if piece[0] == "~":
        return sign_of(piece[1:])
    if piece in PLAIN or piece in free:
        return piece
    return None
