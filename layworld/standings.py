"""Standings of names: the named points and how they stand to one another; moves that name one more."""

from layworld.kinds import is_tuple_of, is_whole
from layworld.parts import part
from layworld.threes import barred_threes, first_three, wishes_over
from layworld.worlds import is_world

# the one standing of no names
NOBODY = ((), ())


def standings(rule, names):
    """All standings of the sorted names, sorted."""
    barred = barred_threes(rule)
    found = [NOBODY]
    for name in names:
        longer = []
        for standing in found:
            longer.extend(longer_standings(rule, barred, standing, name))
        found = longer
    return sorted(found)


def longer_standings(rule, barred, standing, name):
    """The standing with one name more, behind all others, in all ways in which it may stand."""
    world = standing[0]
    old = [(world, standing[1] + ((name, point),)) for point in range(len(world))]
    place = ((name, len(world)),)
    return old + [(world + (wish,), standing[1] + place) for wish in wishes_over(rule, barred, world)]


def moves(rule, standing):
    """All moves at the standing: its points, rising, then the wishes that may stand over its world, sorted."""
    return moves_over(rule, barred_threes(rule), standing)


def moves_over(rule, barred, standing):
    """As moves, by the barred threes of the rule."""
    return list(range(len(standing[0]))) + wishes_over(rule, barred, standing[0])


def moved(rule, standing, name, move, names):
    """The standing of these sorted names behind the move by which the name is put."""
    world = standing[0]
    places = dict(standing[1])
    if is_whole(move):
        places[name] = move
    else:
        places[name] = len(world)
        world = world + (move,)
    return standing_at(rule, world, places, names)


def narrowed(rule, standing, names):
    """The standing of just these sorted names, all of which stand there."""
    if len(names) == len(standing[1]):
        return standing
    return standing_at(rule, standing[0], dict(standing[1]), names)


def standing_at(rule, world, places, names):
    """The standing of these sorted names by their places in the world."""
    points = []
    for name in names:
        if places[name] not in points:
            points.append(places[name])
    return (part(rule, world, points), tuple([(name, points.index(places[name])) for name in names]))


def is_standing(rule, barred, thing, names):
    """Whether the thing is a standing of just these sorted names, by the barred threes of the rule."""
    if not is_tuple_of(thing, 2) or not are_places(thing[1], names):
        return False
    if not is_world(rule, thing[0]) or not come_up(thing[1], len(thing[0])):
        return False
    return first_three(barred, thing[0]) is None


def are_places(thing, names):
    """Whether it is a tuple of pairs of these names, in order, and whole numbers."""
    if not is_tuple_of(thing, len(names)) or not all([is_tuple_of(pair, 2) for pair in thing]):
        return False
    return all([pair[0] == name and is_whole(pair[1]) for pair, name in zip(thing, names)])


def come_up(places, size):
    """Whether so many points are named, each numbered as it comes up."""
    seen = 0
    for name, point in places:
        if not 0 <= point <= seen:
            return False
        seen = max(seen, point + 1)
    return seen == size
