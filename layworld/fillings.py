"""Two wishes over a base: by what they are filled, and what bars the rest."""

from layworld.rules import back
from layworld.threes import barred_threes, first_bar


def fillings(rule, base, one, other):
    """The numbers of the ways from the one to the other that fill, rising, then -1 where they may be the same."""
    bars = barred_by(rule, base, one, other)
    found = [number for number in range(len(rule[1])) if bars[number] is None]
    if bars[-1] is None:
        found.append(-1)
    return found


def barred_by(rule, base, one, other):
    """For each way, and then for "same", the number of the base's point by which it is barred; None where it fills."""
    return all_bars(rule, barred_threes(rule), base, one, other)


def all_bars(rule, barred, base, one, other):
    """As barred_by, by the barred threes of the rule."""
    bars = [first_bar(barred, with_both(rule, base, one, other, number)) for number in range(len(rule[1]))]
    return tuple(bars + [same_bar(one, other)])


def with_both(rule, base, one, other, number):
    """The base with both wishes behind, the one standing to the other in the way of this number."""
    return base + (one, (other[0], other[1] + (back(rule, number),)))


def same_bar(one, other):
    """By which point both wishes can't be the same, -1 where by their marks; None where they are."""
    if one[0] != other[0]:
        return -1
    apart = [point for point in range(len(one[1])) if one[1][point] != other[1][point]]
    return apart[0] if apart else None
