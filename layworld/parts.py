"""Parts of worlds, their least forms, and the figures of a rule."""

from layworld.worlds import way


def part(rule, world, points):
    """The part of the world at these unlike points, in this order."""
    return tuple([point_over(rule, world, points[:place], point) for place, point in enumerate(points)])


def point_over(rule, world, ahead, point):
    """The point of the world as it stands with just these points of it ahead, in this order."""
    return (world[point][0], tuple([way(rule, world, point, other) for other in ahead]))


def least_form(rule, world):
    """The least of the world's parts at all its points in all orders."""
    # tuples are compared point by point: only orders that are least so far can become the least
    form = []
    orders = [()]
    while len(form) < len(world):
        longer = longer_orders(orders, len(world))
        lasts = [point_over(rule, world, order[:-1], order[-1]) for order in longer]
        least = min(lasts)
        form.append(least)
        orders = [order for order, last in zip(longer, lasts) if last == least]
    return tuple(form)


def longer_orders(orders, size):
    """The orders, each with one more point behind, of those below size that it hasn't yet."""
    longer = []
    for order in orders:
        longer.extend([order + (point,) for point in range(size) if point not in order])
    return longer


def figures(rule):
    """All figures of the rule's marks and ways, barred or not, sorted."""
    return [three for three in all_threes(rule) if least_form(rule, three) == three]


def all_threes(rule):
    """All worlds of three points of the rule's marks and ways, sorted."""
    threes = [()]
    for ahead in range(3):
        longer = []
        for world in threes:
            longer.extend([world + (point,) for point in all_points(rule, ahead)])
        threes = longer
    return threes


def all_points(rule, ahead):
    """All points of the rule's marks and ways with so many points ahead, sorted."""
    points = []
    for mark in range(len(rule[0])):
        points.extend([(mark, ways) for ways in all_numbers(len(rule[1]), ahead)])
    return points


def all_numbers(bound, size):
    """All tuples of so many numbers from 0 to below the bound, sorted."""
    if size == 0:
        return [()]
    longer = []
    for numbers in all_numbers(bound, size - 1):
        longer.extend([numbers + (number,) for number in range(bound)])
    return longer
