"""Two worlds laid together over a part that they share."""

from layworld.errors import NoLaying, NoShare
from layworld.kinds import is_numbers
from layworld.parts import part, point_over
from layworld.threes import barred_threes, first_bar


def laid(rule, one, other, pairs):
    """The world in which both are laid together, and the places of the other's points in it; NoShare or NoLaying."""
    if not share_part(rule, one, other, pairs):
        raise NoShare()
    barred = barred_threes(rule)
    order = tuple(range(len(rule[1])))
    world = one
    places = dict([(pair[1], pair[0]) for pair in pairs])
    for number in range(len(other)):
        if number not in places:
            wish = point_over(rule, other, list(places), number)
            spread = spread_wish(rule, barred, world, list(places.values()), wish, order)
            places[number] = place_of(rule, world, spread, number)
            if places[number] == len(world):
                world = world + (point_behind(spread),)
    return (world, tuple([places[number] for number in range(len(other))]))


def share_part(rule, one, other, pairs):
    """Whether the two worlds share a part by the pairs."""
    if not all([is_numbers(pair, 2) for pair in pairs]):
        return False
    ours = [pair[0] for pair in pairs]
    theirs = [pair[1] for pair in pairs]
    if not are_points(one, ours) or not are_points(other, theirs):
        return False
    return part(rule, one, ours) == part(rule, other, theirs)


def are_points(world, numbers):
    """Whether the numbers are unlike points of the world."""
    return all([0 <= number < len(world) for number in numbers]) and len(set(numbers)) == len(numbers)


def spread_wish(rule, barred, world, points, wish, order):
    """The wish over these points laid to the world's other points, as far as a way fills.

    Told are the points that it has ways to by then, and the wish over these.
    """
    points = list(points)
    base = part(rule, world, points)
    rest = [number for number in range(len(world)) if number not in points]
    for there in rest:
        fellow = point_over(rule, world, points, there)
        number = first_filling(barred, base + (fellow,), wish, order)
        if number is None:
            return (points, wish)
        points.append(there)
        base = base + (fellow,)
        wish = (wish[0], wish[1] + (number,))
    return (points, wish)


def first_filling(barred, base, wish, order):
    """The first way in this order by which the wish may stand to the base's last point, or None."""
    for number in order:
        if first_bar(barred, base + ((wish[0], wish[1] + (number,)),)) is None:
            return number
    return None


def place_of(rule, world, spread, number):
    """The place of the other's point of this number: a new one, or that of the point at which no way filled."""
    if len(spread[0]) == len(world):
        return len(world)
    there = min([point for point in range(len(world)) if point not in spread[0]])
    if point_over(rule, world, spread[0], there) != spread[1]:
        raise NoLaying(there, number)
    return there


def point_behind(spread):
    """The wish as it stands behind the world to all points of which it has ways."""
    ways = dict(zip(spread[0], spread[1][1]))
    return (spread[1][0], tuple([ways[point] for point in range(len(ways))]))
