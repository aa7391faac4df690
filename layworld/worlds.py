"""Worlds: how one is looked at by a rule, and how its points stand to one another."""

from layworld.errors import NoWorld
from layworld.kinds import is_numbers, is_tuple_of, is_whole


def look_world(rule, thing):
    """True where the thing is a world of the rule, else NoWorld."""
    if not isinstance(thing, tuple):
        raise NoWorld(0)
    for number, point in enumerate(thing):
        if not is_point(rule, point, number):
            raise NoWorld(number)
    return True


def is_world(rule, thing):
    """Whether it is a world of the rule."""
    return isinstance(thing, tuple) and all([is_point(rule, point, ahead) for ahead, point in enumerate(thing)])


def is_point(rule, thing, ahead):
    """Whether it is a point of the rule's marks and ways, with so many points ahead."""
    if not has_point_form(thing, ahead):
        return False
    mark_there = 0 <= thing[0] < len(rule[0])
    return mark_there and all([0 <= number < len(rule[1]) for number in thing[1]])


def has_point_form(thing, ahead):
    """Whether it has the form of a point with so many points ahead, whatever its numbers are."""
    return is_tuple_of(thing, 2) and is_whole(thing[0]) and is_numbers(thing[1], ahead)


def way(rule, world, i, j):
    """The way in which point i stands to point j; i and j are unlike."""
    if i > j:
        return world[i][1][j]
    # the file of rules draws from this one, so its back can't be drawn from here
    return rule[1][world[j][1][i]][1]
