"""How many unlike worlds there are that may stand, and how many told in an order."""

from layworld.likes import likenesses
from layworld.parts import all_points, least_form
from layworld.threes import barred_threes, wishes_over


def unlike_worlds(rule, n):
    """The least forms of all worlds of n points that may stand, sorted."""
    barred = barred_threes(rule)
    found = [()]
    for ahead in range(n):
        # each world that may stand is a world of a point fewer that may, and a point behind
        longer = {}
        for world in found:
            for wish in wishes_over(rule, barred, world):
                longer[least_form(rule, world + (wish,))] = True
        found = sorted(longer)
    return found


def told_worlds(rule, n):
    """How many worlds of n points, told in an order, may stand."""
    orders = 1
    for number in range(n):
        orders = orders * (number + 1)
    return sum([orders // len(likenesses(rule, world, world)) for world in unlike_worlds(rule, n)])


def written_worlds(rule, n):
    """How many worlds of n points there are, told in an order, whether they may stand or not."""
    count = 1
    for ahead in range(n):
        count = count * len(all_points(rule, ahead))
    return count
