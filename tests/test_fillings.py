import unittest

from layworld.fillings import barred_by, fillings
from layworld.rules import back
from layworld.threes import first_barred, wishes
from tests.samples import (
    BARRED, CLASSES, COUPLES, GRAPH, GRAY, MIXED, NO_THREE, NO_TRIANGLE, ORDER, PLAIN, ROW, SPLIT, TURNED,
    all_shapes, mixed_bars, slow_barred, slow_figures, slow_stands, some_standing, some_world,
    standing_worlds, with_barred,
)


def with_both(rule, base, one, other, way):
    return base + (one, (other[0], other[1] + (rule[1][way][1],)))


def slow_fillings(rule, base, one, other):
    """By the words: the base with both points behind may stand."""
    ways = range(len(rule[1]))
    found = [way for way in ways if slow_stands(rule, with_both(rule, base, one, other, way))]
    return found + ([-1] if one == other else [])


def slow_barred_by(rule, base, one, other):
    told = []
    for way in range(len(rule[1])):
        threes = slow_barred(rule, with_both(rule, base, one, other, way))
        told.append(threes[0][0] if threes else None)
    if one == other:
        return tuple(told + [None])
    if one[0] != other[0]:
        return tuple(told + [-1])
    return tuple(told + [min(point for point in range(len(base)) if one[1][point] != other[1][point])])


class Told(unittest.TestCase):
    def told(self, rule, base, one, other, found, bars):
        self.assertEqual(fillings(rule, base, one, other), found)
        self.assertEqual(barred_by(rule, base, one, other), bars)


class Fillings(Told):
    def test_over_no_points(self):
        self.told(GRAY, (), (0, ()), (0, ()), [0, -1], (None, None))
        self.told(NO_THREE, (), (0, ()), (0, ()), [0, -1], (None, None))
        self.told(MIXED, (), (0, ()), (0, ()), [0, 1, 2, -1], (None, None, None, None))
        self.told(MIXED, (), (0, ()), (1, ()), [0, 1, 2], (None, None, None, -1))
        self.told(MIXED, (), (1, ()), (0, ()), [0, 1, 2], (None, None, None, -1))

    def test_every_way(self):
        base = some_world(MIXED, 3, 1)
        self.told(MIXED, base, (0, (0, 1, 2)), (0, (0, 1, 2)), [0, 1, 2, -1], (None, None, None, None))
        self.told(MIXED, base, (0, (0, 1, 2)), (0, (0, 1, 1)), [0, 1, 2], (None, None, None, 2))
        self.told(MIXED, base, (0, (0, 1, 2)), (0, (1, 1, 1)), [0, 1, 2], (None, None, None, 0))
        self.told(MIXED, base, (0, (0, 1, 2)), (1, (0, 1, 2)), [0, 1, 2], (None, None, None, -1))

    def test_some_ways(self):
        point = ((0, ()),)
        self.told(CLASSES, point, (0, (0,)), (0, (0,)), [0, -1], (None, 0, None))
        self.told(CLASSES, point, (0, (0,)), (0, (1,)), [1], (0, None, 0))
        self.told(CLASSES, point, (0, (1,)), (0, (1,)), [0, 1, -1], (None, None, None))
        self.told(NO_TRIANGLE, point, (0, (0,)), (0, (0,)), [1, -1], (0, None, None))

    def test_none(self):
        point = ((0, ()),)
        self.told(COUPLES, point, (0, (0,)), (0, (0,)), [-1], (0, 0, None))
        self.told(NO_THREE, point, (0, (0,)), (0, (0,)), [-1], (0, None))
        self.told(SPLIT, point, (0, (0,)), (0, (1,)), [], (0, 0, 0))
        every = with_barred(MIXED, slow_figures(MIXED))
        self.told(every, point, (0, (1,)), (1, (1,)), [], (0, 0, 0, -1))
        self.told(every, point, (1, (1,)), (1, (1,)), [-1], (0, 0, 0, None))

    def test_the_way_is_that_of_the_one_to_the_other(self):
        point = ((0, ()),)
        # the one is below the point, the other above it: so the one is below the other
        self.told(ROW, point, (0, (0,)), (0, (1,)), [0], (None, 0, 0))
        self.told(ROW, point, (0, (1,)), (0, (0,)), [1], (0, None, 0))
        self.told(ROW, point, (0, (0,)), (0, (0,)), [0, 1, -1], (None, None, None))

    def test_the_first_point_that_bars(self):
        pair = ((0, ()), (0, (1,)))
        near = (0, (0, 0))
        self.told(NO_TRIANGLE, pair, near, near, [1, -1], (0, None, None))
        self.told(NO_TRIANGLE, pair, (0, (1, 0)), near, [1], (1, None, 0))
        self.told(NO_TRIANGLE, pair, (0, (0, 1)), near, [1], (0, None, 1))
        three = ((0, ()), (0, (0,)), (0, (0, 0)))
        # in a row, topmost first: the one is below all, the other above the second
        self.told(ROW, three, (0, (0, 0, 0)), (0, (0, 1, 1)), [0], (None, 1, 1))
        self.told(ROW, three, (0, (0, 0, 0)), (0, (1, 1, 1)), [0], (None, 0, 0))

    def test_against_the_words(self):
        seen = {}
        rules = BARRED + (GRAPH, ORDER) + tuple(mixed_bars(shape, 6, 30) for shape in all_shapes())
        for rule in rules:
            for size in range(3):
                for base in standing_worlds(rule, size)[::4]:
                    points = wishes(rule, base)
                    for one in points[::2]:
                        for other in points:
                            told = fillings(rule, base, one, other)
                            seen[len(told)] = True
                            self.assertEqual(told, slow_fillings(rule, base, one, other))
                            self.assertEqual(barred_by(rule, base, one, other), slow_barred_by(rule, base, one, other))
        self.assertEqual(sorted(seen), [0, 1, 2, 3, 4])

    def test_larger_bases(self):
        for rule in (NO_TRIANGLE, COUPLES, ROW, mixed_bars(TURNED, 8, 10)):
            for seed in range(6):
                base = some_standing(rule, 4, seed)
                points = wishes(rule, base)
                for one, other in zip(points, points[::-1]):
                    self.told(rule, base, one, other, slow_fillings(rule, base, one, other),
                              slow_barred_by(rule, base, one, other))

    def test_both_answers_agree_with_may_stand(self):
        for rule in (ROW, mixed_bars(MIXED, 2, 20), mixed_bars(TURNED, 3, 20)):
            for base in standing_worlds(rule, 2):
                for one in wishes(rule, base):
                    for other in wishes(rule, base)[::3]:
                        told = fillings(rule, base, one, other)
                        bars = barred_by(rule, base, one, other)
                        self.assertEqual(len(bars), len(rule[1]) + 1)
                        for way in range(len(rule[1])):
                            stands = first_barred(rule, with_both(rule, base, one, other, way)) is None
                            self.assertEqual(stands, way in told)
                            self.assertEqual(stands, bars[way] is None)
                        self.assertEqual(-1 in told, one == other)
                        self.assertEqual(-1 in told, bars[-1] is None)

    def test_exchanged(self):
        for rule in (ROW, mixed_bars(MIXED, 2, 20)):
            for base in standing_worlds(rule, 1):
                for one in wishes(rule, base):
                    for other in wishes(rule, base):
                        there = fillings(rule, base, one, other)
                        turned = [back(rule, way) if way >= 0 else -1 for way in fillings(rule, base, other, one)]
                        self.assertEqual(set(there), set(turned))

    def test_told_anew(self):
        point = ((0, ()),)
        told = fillings(CLASSES, point, (0, (1,)), (0, (1,)))
        told.clear()
        self.assertEqual(fillings(CLASSES, point, (0, (1,)), (0, (1,))), [0, 1, -1])

    def test_thirty_points(self):
        row = tuple((0, (0,) * ahead) for ahead in range(30))
        self.told(ROW, row, (0, (0,) * 30), (0, (0,) * 29 + (1,)), [0], (None, 29, 29))


class Plain(Told):
    def test_without_barred_figures_every_way_fills(self):
        for rule in PLAIN:
            base = some_world(rule, 4, 2)
            points = wishes(rule, base)[::5]
            for one in points:
                for other in points:
                    ways = list(range(len(rule[1])))
                    self.assertEqual(fillings(rule, base, one, other), ways + ([-1] if one == other else []))


if __name__ == "__main__":
    unittest.main()
