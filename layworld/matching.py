"""Two growths of one rule, matched point by point."""

from layworld.errors import NoShare, NoWish
from layworld.kinds import is_whole
from layworld.laying import share_part
from layworld.worlds import way


class Matching:
    """Points of two growths, each with its fellow in the other one; what is matched is a part that both share."""

    def __init__(self, one, other, pairs):
        if not share_part(one.rule, one.world(), other.world(), pairs):
            raise NoShare()
        self.one = one
        self.other = other
        # the fellows of the first one's points, and those of the second one's
        self.ahead = dict([(pair[0], pair[1]) for pair in pairs])
        self.behind = dict([(pair[1], pair[0]) for pair in pairs])

    def on(self, point):
        """The fellow, in the second growth, of a point of the first one."""
        return fellow_of(self.one, self.other, self.ahead, self.behind, point)

    def back(self, point):
        """The fellow, in the first growth, of a point of the second one."""
        return fellow_of(self.other, self.one, self.behind, self.ahead, point)

    def step(self):
        """On by the first one's least point without a fellow, then back by the second one's: the pairs that came."""
        came = []
        point = first_alone(self.one, self.ahead)
        if point is not None:
            came.append((point, self.on(point)))
        point = first_alone(self.other, self.behind)
        if point is not None:
            came.append((self.back(point), point))
        return came

    def pairs(self):
        """All pairs by now, sorted."""
        return sorted(self.ahead.items())


def fellow_of(source, target, fellows, sources, point):
    """The fellow in the target of the source's point; where it has none the target is asked for one."""
    world = source.world()
    if not is_whole(point) or not 0 <= point < len(world):
        raise NoWish()
    if point not in fellows:
        points = tuple(sorted(sources))
        ways = tuple([way(source.rule, world, point, sources[place]) for place in points])
        fellow = target.wish(points, world[point][0], ways)
        fellows[point] = fellow
        sources[fellow] = point
    return fellows[point]


def first_alone(growth, fellows):
    """The growth's least point without a fellow, or None."""
    alone = [point for point in range(len(growth.world())) if point not in fellows]
    return min(alone) if alone else None
