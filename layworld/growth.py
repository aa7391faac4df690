"""The world of a rule, grown wish by wish."""

from layworld.always import must_lay
from layworld.errors import NoRule, NoWish
from layworld.kinds import is_numbers
from layworld.laying import point_behind, spread_wish
from layworld.parts import part, point_over
from layworld.threes import barred_threes, may_come, wishes_over
from layworld.worlds import is_point


class Growth:
    """A world that is grown by a rule that always lays; new points try the ways in the order told."""

    def __init__(self, rule, order):
        must_lay(rule)
        if not is_order(rule, order):
            raise NoRule("order")
        self.rule = rule
        self.order = order
        self.barred = barred_threes(rule)
        self.grown = ()
        self.done = 0
        # the points that the fair order has come to, and the wishes over these that are still to be met
        self.over = ()
        self.due = wishes_over(rule, self.barred, ())

    def wish(self, points, mark, ways):
        """The least point that meets the wish, where there is none a new one; NoWish where it may not stand."""
        if not is_wish(self.rule, self.barred, self.grown, points, (mark, ways)):
            raise NoWish()
        for point in range(len(self.grown)):
            if point not in points and point_over(self.rule, self.grown, points, point) == (mark, ways):
                return point
        spread = spread_wish(self.rule, self.barred, self.grown, points, (mark, ways), self.order)
        self.grown = self.grown + (point_behind(spread),)
        return len(self.grown) - 1

    def step(self):
        """Meets the next wish of the fair order: the wish and the point that meets it; None at the end."""
        asked = self.next_wish()
        if asked is None:
            return None
        self.due = self.due[1:]
        self.done = self.done + 1
        return (asked, self.wish(asked[0], asked[1], asked[2]))

    def next_wish(self):
        """The wish that the next step meets, or None at the end."""
        while not self.due:
            following = following_points(self.over)
            if following[-1] >= len(self.grown):
                return None
            self.over = following
            self.due = wishes_over(self.rule, self.barred, part(self.rule, self.grown, following))
        return (self.over, self.due[0][0], self.due[0][1])

    def world(self):
        """The world as it is grown by now."""
        return self.grown

    def steps(self):
        """How many steps were done."""
        return self.done


def is_order(rule, thing):
    """Whether it is a tuple of all numbers of the rule's ways, each once."""
    return is_numbers(thing, len(rule[1])) and sorted(thing) == list(range(len(rule[1])))


def is_wish(rule, barred, world, points, wish):
    """Whether points are rising points of the world, and the wish is one that may stand over their part."""
    if not is_rising(points, len(world)) or not is_point(rule, wish, len(points)):
        return False
    return may_come(barred, part(rule, world, points), wish)


def is_rising(thing, size):
    """Whether it is a rising tuple of numbers from 0 to below the size."""
    if not isinstance(thing, tuple) or not is_numbers(thing, len(thing)):
        return False
    return all([0 <= number < size for number in thing]) and sorted(set(thing)) == list(thing)


def following_points(points):
    """The rising points that come next in the fair order: fewer ahead, then sorted, then those up to the next."""
    if not points:
        return (0,)
    last = points[-1]
    heads = points[:-1]
    # the last head that can still rise does so, and those behind it follow it closely
    for place in range(len(heads) - 1, -1, -1):
        if heads[place] < last - len(heads) + place:
            first = heads[place] + 1
            return heads[:place] + tuple(range(first, first + len(heads) - place)) + (last,)
    if len(heads) < last:
        return tuple(range(len(heads) + 1)) + (last,)
    return (last + 1,)
