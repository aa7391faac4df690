"""Barred threes: which worlds may stand, and which wishes over them."""

from layworld.parts import longer_orders, part


def barred_threes(rule):
    """All worlds of three points whose figure is barred, in every order of their points."""
    # asked many times over, a look at this is far quicker than a least form each time
    orders = [()]
    while len(orders[0]) < 3:
        orders = longer_orders(orders, 3)
    barred = {}
    for figure in rule[2]:
        for order in orders:
            barred[part(rule, figure, order)] = True
    return barred


def three_at(world, i, j, k):
    """The part of the world at three rising points."""
    one = (world[i][0], ())
    two = (world[j][0], (world[j][1][i],))
    return (one, two, (world[k][0], (world[k][1][i], world[k][1][j])))


def first_barred(rule, world):
    """The first three rising points whose figure is barred, or None."""
    return first_three(barred_threes(rule), world)


def first_three(barred, world):
    """As first_barred, by the barred threes of the rule."""
    for i in range(len(world)):
        for j in range(i + 1, len(world)):
            for k in range(j + 1, len(world)):
                if three_at(world, i, j, k) in barred:
                    return (i, j, k)
    return None


def first_bar(barred, world):
    """The first point of the world that is in a barred three with its last two points, or None."""
    last = len(world) - 1
    for point in range(last - 1):
        if three_at(world, point, last - 1, last) in barred:
            return point
    return None


def may_come(barred, world, wish):
    """Whether the wish may stand over the world, which may stand itself."""
    heads = [world[:size] + ((wish[0], wish[1][:size]),) for size in range(2, len(world) + 1)]
    return all([first_bar(barred, head) is None for head in heads])


def wishes(rule, world):
    """All wishes that may stand over the world, which may stand itself, sorted."""
    return wishes_over(rule, barred_threes(rule), world)


def wishes_over(rule, barred, world):
    """As wishes, by the barred threes of the rule."""
    found = []
    for mark in range(len(rule[0])):
        heads = [(mark, ())]
        for size in range(1, len(world) + 1):
            heads = [head for head in longer_wishes(rule, heads) if first_bar(barred, world[:size] + (head,)) is None]
        found.extend(heads)
    return found


def longer_wishes(rule, heads):
    """The wishes, each with one more way behind."""
    longer = []
    for mark, ways in heads:
        longer.extend([(mark, ways + (number,)) for number in range(len(rule[1]))])
    return longer
