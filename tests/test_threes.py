import unittest

from layworld.threes import first_barred, wishes
from tests.samples import (
    BARRED, CLASSES, COUPLES, GRAPH, GRAY, MIXED, NO_THREE, NO_TRIANGLE, ORDER, PLAIN, ROW,
    all_shapes, mixed_bars, slow_barred, slow_figures, slow_stands, slow_wishes, some_standing, some_world,
    standing_worlds, with_barred, worlds_of,
)


class FirstBarred(unittest.TestCase):
    def test_few_points(self):
        for rule in PLAIN:
            every = with_barred(rule, slow_figures(rule))
            for size in range(3):
                for world in worlds_of(rule, size):
                    self.assertIsNone(first_barred(every, world))
            for world in worlds_of(rule, 3)[::5]:
                self.assertEqual(first_barred(every, world), (0, 1, 2))
                self.assertIsNone(first_barred(rule, world))

    def test_told_ones(self):
        self.assertEqual(first_barred(ROW, ((0, ()), (0, (0,)), (0, (1, 0)))), (0, 1, 2))
        self.assertEqual(first_barred(ROW, ((0, ()), (0, (1,)), (0, (0, 1)))), (0, 1, 2))
        self.assertIsNone(first_barred(ROW, ((0, ()), (0, (0,)), (0, (0, 0)))))
        self.assertIsNone(first_barred(ROW, ((0, ()), (0, (0,)), (0, (0, 1)))))

    def test_every_order_of_a_three_is_looked_at(self):
        for rule in all_shapes():
            for figure in slow_figures(rule)[::3]:
                barred = with_barred(rule, [figure])
                for world in worlds_of(rule, 3):
                    expected = None if slow_stands(barred, world) else (0, 1, 2)
                    self.assertEqual(first_barred(barred, world), expected)

    def test_the_last_point_alone(self):
        # all in a row, but that the last point stands in a ring with the two ahead of it
        for size in (2, 5, 29):
            row = tuple((0, (0,) * ahead) for ahead in range(size))
            self.assertIsNone(first_barred(ROW, row))
            last = (0, (0,) * (size - 2) + (1, 0))
            self.assertEqual(first_barred(ROW, row + (last,)), (size - 2, size - 1, size))

    def test_the_least_of_several(self):
        several = 0
        for rule in BARRED + tuple(mixed_bars(MIXED, seed, 10) for seed in range(6)):
            for seed in range(12):
                world = some_world(rule, 7, seed)
                every = slow_barred(rule, world)
                several += len(every) > 1
                self.assertEqual(first_barred(rule, world), every[0] if every else None)
        self.assertGreater(several, 20)

    def test_rising_tuples_are_put_as_tuples(self):
        # barred are the threes (0, 3, 4) and (1, 2, 3): the former is the least, whatever comes first by its last point
        near = {(0, 3), (0, 4), (3, 4), (1, 2), (1, 3), (2, 3)}
        rows = [tuple(0 if (other, point) in near else 1 for other in range(point)) for point in range(5)]
        world = tuple((0, row) for row in rows)
        self.assertEqual(slow_barred(NO_TRIANGLE, world), [(0, 3, 4), (1, 2, 3)])
        self.assertEqual(first_barred(NO_TRIANGLE, world), (0, 3, 4))

    def test_thirty_points(self):
        world = tuple((0, (1,) * ahead) for ahead in range(30))
        self.assertIsNone(first_barred(NO_TRIANGLE, world))
        self.assertEqual(first_barred(with_barred(GRAPH, [((0, ()), (0, (1,)), (0, (1, 1)))]), world), (0, 1, 2))


class Wishes(unittest.TestCase):
    def test_over_no_points(self):
        self.assertEqual(wishes(GRAY, ()), [(0, ())])
        self.assertEqual(wishes(NO_THREE, ()), [(0, ())])
        self.assertEqual(wishes(MIXED, ()), [(0, ()), (1, ())])

    def test_told_ones(self):
        self.assertEqual(wishes(ORDER, ((0, ()),)), [(0, (0,)), (0, (1,))])
        self.assertEqual(wishes(NO_THREE, ((0, ()),)), [(0, (0,))])
        self.assertEqual(wishes(NO_THREE, ((0, ()), (0, (0,)))), [])
        self.assertEqual(wishes(COUPLES, ((0, ()), (0, (0,)))), [(0, (1, 1))])
        self.assertEqual(wishes(COUPLES, ((0, ()), (0, (1,)))), [(0, (0, 1)), (0, (1, 0)), (0, (1, 1))])
        # below the lower one, between, above the upper one
        self.assertEqual(wishes(ROW, ((0, ()), (0, (0,)))), [(0, (0, 0)), (0, (0, 1)), (0, (1, 1))])

    def test_without_barred_figures(self):
        for rule in PLAIN:
            for size in range(6):
                told = wishes(rule, some_world(rule, size, size))
                self.assertEqual(told, sorted(set(told)))
                self.assertEqual(len(told), len(rule[0]) * len(rule[1]) ** size)

    def test_against_all_points(self):
        for rule in BARRED + tuple(mixed_bars(shape, 4, 25) for shape in all_shapes()):
            for size in range(4):
                for world in standing_worlds(rule, size)[::9]:
                    self.assertEqual(wishes(rule, world), slow_wishes(rule, world))

    def test_over_more_points(self):
        # five in a row: six places for one more
        row = tuple((0, (1,) * ahead) for ahead in range(5))
        places = [(0, (1,) * above + (0,) * (5 - above)) for above in range(6)]
        self.assertEqual(wishes(ROW, row), sorted(places))
        classes = ((0, ()), (0, (0,)), (0, (1, 1)), (0, (1, 1, 0)), (0, (1, 1, 1, 1)))
        expected = [(0, (0, 0, 1, 1, 1)), (0, (1, 1, 0, 0, 1)), (0, (1, 1, 1, 1, 0)), (0, (1, 1, 1, 1, 1))]
        self.assertEqual(wishes(CLASSES, classes), expected)
        for rule in (NO_TRIANGLE, mixed_bars(MIXED, 8, 8)):
            for seed in range(4):
                world = some_standing(rule, 5, seed)
                self.assertEqual(wishes(rule, world), slow_wishes(rule, world))

    def test_none_where_no_point_may_stand(self):
        for rule in all_shapes():
            every = with_barred(rule, slow_figures(rule))
            for world in worlds_of(rule, 2):
                self.assertEqual(wishes(every, world), [])
            for world in worlds_of(rule, 1):
                self.assertEqual(len(wishes(every, world)), len(rule[0]) * len(rule[1]))

    def test_told_anew(self):
        told = wishes(ROW, ((0, ()), (0, (0,))))
        kept = list(told)
        told.clear()
        self.assertEqual(wishes(ROW, ((0, ()), (0, (0,)))), kept)
        again = wishes(ROW, ((0, ()), (0, (0,))))
        again.append("mine")
        self.assertEqual(wishes(ROW, ((0, ()), (0, (0,)))), kept)


if __name__ == "__main__":
    unittest.main()
