"""Likenesses of worlds, and what two worlds have in common."""

from layworld.parts import longer_orders, point_over


def likenesses(rule, one, other):
    """All likenesses of the one world to the other, sorted."""
    found = [()]
    for point in one:
        longer = longer_orders(found, len(other))
        found = [places for places in longer if point_over(rule, other, places[:-1], places[-1]) == point]
    return found


def in_common(rule, one, other):
    """The pairs of points at which both worlds have the same part: of the most pairs, of several the least."""
    return best_behind(rule, (one, other), (), ())


def best_behind(rule, worlds, pairs, best):
    """The best of what begins with these pairs; what was found ahead of them, where none of it has more pairs."""
    # pairs come sorted, so of those with the most pairs the least one is found first
    if len(pairs) > len(best):
        best = pairs
    first = pairs[-1][0] + 1 if pairs else 0
    for point in range(first, len(worlds[0])):
        if len(pairs) + len(worlds[0]) - point > len(best):
            for pair in pairs_with(rule, worlds, pairs, point):
                best = best_behind(rule, worlds, pairs + (pair,), best)
    return best


def pairs_with(rule, worlds, pairs, point):
    """The pairs of this point of the first world that may come behind the pairs, sorted."""
    theirs = [pair[1] for pair in pairs]
    ours = point_over(rule, worlds[0], [pair[0] for pair in pairs], point)
    free = [fellow for fellow in range(len(worlds[1])) if fellow not in theirs]
    return [(point, fellow) for fellow in free if point_over(rule, worlds[1], theirs, fellow) == ours]
