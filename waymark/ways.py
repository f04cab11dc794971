"""Ways gone step by step, and their holders."""

from waymark.addresses import ENDS, QUESTION, ROOTED, STEPS, WAY

STAY = "."
UP = ".."
NO_WAY = (False, (), False)


def is_dot(step):
    return step == STAY or step == UP


def gone(way):
    steps = way[STEPS]
    if len(steps) == 0:
        return way
    left = steps_left(steps, way[ROOTED])
    if len(left) > 0:
        return (way[ROOTED], left, way[ENDS] or is_dot(steps[-1]))
    return (True, (), True) if way[ROOTED] else (False, (STAY,), True)


def steps_left(steps, rooted):
    left = []
    for step in steps:
        if step == UP:
            go_up(left, rooted)
        elif step != STAY:
            left.append(step)
    return tuple(left)


# Nothing lies above the root; from elsewhere a step up that takes nothing away is still to be gone, so it is kept.
def go_up(left, rooted):
    if len(left) > 0 and left[-1] != UP:
        left.pop()
    elif not rooted:
        left.append(UP)


def with_way_gone(address):
    return address[:WAY] + (gone(address[WAY]),) + address[QUESTION:]


def holder(way):
    way_gone = gone(way)
    return way_gone[STEPS] if way_gone[ENDS] else way_gone[STEPS][:-1]
