import itertools
import math
import unittest

from layworld.counts import told_worlds, unlike_worlds
from layworld.likes import likenesses
from layworld.parts import least_form
from layworld.threes import first_barred
from layworld.worlds import look_world
from tests.samples import (
    BARRED, BESIDE, CLASSES, COLOURED_ROW, COLOURS, COUPLES, GRAPH, GRAY, MIXED, NESTED, NO_THREE, NO_TRIANGLE, ORDER, PENTAGON,
    PLAIN, RINGED, ROW, SPLIT, TURNED, all_shapes, mixed_bars, shaped, slow_figures, slow_least_form, slow_stands, with_barred,
    worlds_of,
)


def within(rule, n):
    """Whether so many points are asked for by the document's bound."""
    return n <= 5 and len(rule[0]) ** n * len(rule[1]) ** (n * (n - 1) // 2) <= 1000


class Counts(unittest.TestCase):
    def counted(self, rule, unlike, told):
        self.assertEqual([len(unlike_worlds(rule, n)) for n in range(len(unlike))], unlike)
        self.assertEqual([told_worlds(rule, n) for n in range(len(told))], told)

    def test_known_counts(self):
        self.counted(GRAY, [1, 1, 1, 1, 1, 1], [1, 1, 1, 1, 1, 1])
        self.counted(GRAPH, [1, 1, 2, 4, 11], [1, 1, 2, 8, 64])
        self.counted(ORDER, [1, 1, 1, 2, 4], [1, 1, 2, 8, 64])
        self.counted(ROW, [1, 1, 1, 1, 1], [1, 1, 2, 6, 24])
        # parts of four points into classes: 5 by sizes, 15 in all
        self.counted(CLASSES, [1, 1, 2, 3, 5], [1, 1, 2, 5, 15])
        self.counted(COUPLES, [1, 1, 2, 2, 3], [1, 1, 2, 4, 10])
        self.counted(NO_TRIANGLE, [1, 1, 2, 3, 7], [1, 1, 2, 7, 41])
        self.counted(shaped(2, (0,)), [1, 2, 3, 4, 5, 6], [1, 2, 4, 8, 16, 32])
        self.counted(shaped(3, (0,)), [1, 3, 6, 10, 15, 21], [1, 3, 9, 27, 81, 243])
        self.counted(COLOURS, [1, 3, 9, 38], [1, 3, 18, 216])

    def test_a_point_beyond(self):
        # nothing is refused that lies somewhat beyond the bound
        self.counted(GRAPH, [1, 1, 2, 4, 11, 34], [1, 1, 2, 8, 64, 1024])
        self.counted(ORDER, [1, 1, 1, 2, 4, 12], [1, 1, 2, 8, 64, 1024])

    def test_where_none_may_stand(self):
        self.counted(NO_THREE, [1, 1, 1, 0, 0, 0], [1, 1, 1, 0, 0, 0])
        self.counted(RINGED, [1, 1, 1, 1, 0, 0], [1, 1, 2, 2, 0, 0])
        self.counted(PENTAGON, [1, 1, 2, 2, 3, 1], [1, 1, 2, 6, 18, 12])
        for rule in (COLOURS, MIXED):
            every = with_barred(rule, slow_figures(rule))
            self.assertEqual(unlike_worlds(every, 3), [])
            self.assertEqual(told_worlds(every, 3), 0)

    def test_the_world_without_points(self):
        for rule in PLAIN + BARRED:
            self.assertEqual(unlike_worlds(rule, 0), [()])
            self.assertEqual(told_worlds(rule, 0), 1)
            self.assertEqual(unlike_worlds(rule, 1), [((mark, ()),) for mark in range(len(rule[0]))])

    def gone_through(self, rule, n):
        told = unlike_worlds(rule, n)
        stand = [world for world in worlds_of(rule, n) if slow_stands(rule, world)]
        self.assertIs(type(told), list)
        self.assertEqual(told, sorted(set(slow_least_form(rule, world) for world in stand)))
        self.assertEqual(told_worlds(rule, n), len(stand))
        return told

    def test_gone_through_over_all_worlds(self):
        for rule in PLAIN + BARRED + (RINGED, BESIDE, NESTED, COLOURED_ROW, TURNED, PENTAGON) + tuple(all_shapes()):
            for n in range(6):
                if within(rule, n) and n < 5:
                    self.gone_through(rule, n)

    def test_five_points(self):
        for rule in (GRAY, shaped(2, (0,)), NO_THREE, shaped(3, (0,))):
            self.gone_through(rule, 5)

    def test_mixed_rules(self):
        for seed, shape in enumerate(all_shapes() * 2):
            rule = mixed_bars(shape, seed, 15 + 3 * seed)
            for n in range(5):
                if within(rule, n):
                    for world in self.gone_through(rule, n):
                        self.assertIs(look_world(rule, world), True)
                        self.assertIsNone(first_barred(rule, world))
                        self.assertEqual(least_form(rule, world), world)

    def test_none_is_like_another(self):
        for rule in (GRAPH, ROW, NESTED, COLOURED_ROW, SPLIT):
            for n in (2, 3):
                told = unlike_worlds(rule, n)
                for one, other in itertools.combinations(told, 2):
                    self.assertEqual(likenesses(rule, one, other), [])
                ordered = [math.factorial(n) // len(likenesses(rule, world, world)) for world in told]
                self.assertEqual(sum(ordered), told_worlds(rule, n))

    def test_the_askers_own(self):
        told = unlike_worlds(GRAPH, 3)
        kept = list(told)
        told.clear()
        self.assertEqual(unlike_worlds(GRAPH, 3), kept)
        none = unlike_worlds(GRAPH, 0)
        none.append(1)
        self.assertEqual(unlike_worlds(GRAPH, 0), [()])


if __name__ == "__main__":
    unittest.main()
