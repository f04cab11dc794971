"""Which of two patterns is worth more."""

from waymark.patterns import PIECES, head_of, tail_of

WORTH_OF_WORDS = {"step": 6, "part": 5, "number": 4, "word": 3, "gap": 2, "rest": 1}


def worth_more(one, other):
    for mine, theirs in zip(one[PIECES], other[PIECES]):
        if worth_of(mine) != worth_of(theirs):
            return worth_of(mine) > worth_of(theirs)
    return len(one[PIECES]) < len(other[PIECES])


def worth_of(piece):
    head = head_of(piece)
    return (WORTH_OF_WORDS[piece[0]], len(head) + len(tail_of(piece)), len(head))
