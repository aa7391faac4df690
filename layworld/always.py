"""Whether a rule always lays, and lays apart."""

from layworld.errors import NoRule
from layworld.fillings import all_bars, barred_by
from layworld.kinds import is_tuple_of
from layworld.threes import barred_threes, first_bar, first_barred, wishes_over
from layworld.worlds import is_point, is_world


def unlaid(rule):
    """None where the rule always lays, else a base and two wishes over it that have no filling."""
    return first_unfilled(rule, len(rule[1]) + 1)


def must_lay(rule):
    """NoRule where the rule doesn't always lay."""
    if unlaid(rule) is not None:
        raise NoRule("lays")


def put_on(rule):
    """None where the rule lays apart, else a base and two wishes over it that have no filling by a way."""
    return first_unfilled(rule, len(rule[1]))


def first_unfilled(rule, counted):
    """A base and two wishes over it without a filling by the ways, and "same" where so many are counted; or None."""
    barred = barred_threes(rule)
    for mark in range(len(rule[0])):
        for other in range(mark, len(rule[0])):
            found = unfilled_behind(rule, barred, ((), (mark, ()), (other, ())), counted)
            if found is not None:
                return found
    return None


def unfilled_behind(rule, barred, tried, counted):
    """What has no filling and begins with this base and these two wishes, or None."""
    bars = all_bars(rule, barred, tried[0], tried[1], tried[2])[:counted]
    if None not in bars:
        return tried
    # one point of the base is enough to bar one filling: so only points that bar the first one left are tried
    place = bars.index(None)
    for longer in longer_by_a_point(rule, barred, tried):
        if all_bars(rule, barred, longer[0], longer[1], longer[2])[place] is not None:
            found = unfilled_behind(rule, barred, longer, counted)
            if found is not None:
                return found
    return None


def longer_by_a_point(rule, barred, tried):
    """The base with one point more and the two wishes over it, in all ways in which both may stand."""
    longer = []
    for point in wishes_over(rule, barred, tried[0]):
        base = tried[0] + (point,)
        others = longer_by_a_way(rule, barred, base, tried[2])
        for one in longer_by_a_way(rule, barred, base, tried[1]):
            longer.extend([(base, one, other) for other in others])
    return longer


def longer_by_a_way(rule, barred, base, wish):
    """The wish with a way to the base's last point, in all ways in which it may stand over the base."""
    longer = [(wish[0], wish[1] + (number,)) for number in range(len(rule[1]))]
    return [head for head in longer if first_bar(barred, base + (head,)) is None]


def is_unlaid(rule, thing):
    """Whether the thing is a base and two wishes over it that may stand and have no filling."""
    return is_base_with_two(rule, thing) and None not in barred_by(rule, thing[0], thing[1], thing[2])


def is_put_on(rule, thing):
    """Whether the thing is a base and two wishes over it that may stand and have no filling by a way."""
    return is_base_with_two(rule, thing) and None not in barred_by(rule, thing[0], thing[1], thing[2])[:-1]


def is_base_with_two(rule, thing):
    """Whether the thing is a base and two wishes that may stand over it."""
    if not is_tuple_of(thing, 3) or not is_world(rule, thing[0]):
        return False
    if not all([is_point(rule, wish, len(thing[0])) for wish in thing[1:]]):
        return False
    return all([first_barred(rule, thing[0] + (wish,)) is None for wish in thing[1:]])
