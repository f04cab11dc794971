"""Addresses told relative to a base."""

from waymark.addresses import DOOR, ENDS, HOUSE, MARK, QUESTION, SCHEME, STEPS, WAY, is_whole
from waymark.errors import NoBase
from waymark.ways import NO_WAY, STAY, UP, holder, with_way_gone


def relative(base, goal):
    if not is_whole(base) or not is_whole(goal):
        raise NoBase()
    return told_from(with_way_gone(base), with_way_gone(goal))


# An address without a house takes the base's, so a goal without one can't be told from a base that has one.
def told_from(base, goal):
    if base[SCHEME] != goal[SCHEME] or (base[HOUSE] is not None and goal[HOUSE] is None):
        return goal
    if base[HOUSE] != goal[HOUSE] or base[DOOR] != goal[DOOR]:
        return ("",) + goal[HOUSE:]
    if can_stay(base, goal):
        question = None if base[QUESTION] == goal[QUESTION] else goal[QUESTION]
        return ("", None, None, NO_WAY, question, goal[MARK])
    return ("", None, None, way_between(base[WAY], goal[WAY]), goal[QUESTION], goal[MARK])


# Without a way and without a question the base's question would be taken, which a goal without one mustn't have.
def can_stay(base, goal):
    return base[WAY] == goal[WAY] and (goal[QUESTION] is not None or base[QUESTION] is None)


def way_between(base_way, goal_way):
    here = holder(base_way)
    there = holder(goal_way)
    shared = count_in_common(here, there)
    last = () if goal_way[ENDS] else goal_way[STEPS][-1:]
    steps = (UP,) * (len(here) - shared) + there[shared:] + last
    return (False, steps if len(steps) > 0 else (STAY,), goal_way[ENDS])


def count_in_common(one, other):
    count = 0
    while count < min(len(one), len(other)) and one[count] == other[count]:
        count = count + 1
    return count
