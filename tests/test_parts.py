import itertools
import unittest

from layworld.parts import figures, least_form, part
from layworld.rules import look_rule
from layworld.worlds import look_world, way
from tests.samples import (
    COLOURS, GRAPH, GRAY, MIXED, ORDER, PLAIN, TURNED,
    all_shapes, slow_least_form, slow_part, some_world, with_barred, worlds_of,
)


class Parts(unittest.TestCase):
    def test_told_ones(self):
        world = ((0, ()), (1, (1,)), (0, (2, 0)))
        self.assertEqual(part(MIXED, world, (2, 0)), ((0, ()), (0, (1,))))
        self.assertEqual(part(MIXED, world, (0, 2)), ((0, ()), (0, (2,))))
        self.assertEqual(part(MIXED, world, (1, 2)), ((1, ()), (0, (0,))))
        self.assertEqual(part(MIXED, world, (2, 1, 0)), ((0, ()), (1, (0,)), (0, (1, 2))))
        self.assertEqual(part(MIXED, world, (1,)), ((1, ()),))

    def test_at_no_points_and_at_all_in_order(self):
        for rule in PLAIN:
            for size in (0, 1, 2, 5, 6, 30):
                world = some_world(rule, size, size)
                self.assertEqual(part(rule, world, ()), ())
                self.assertEqual(part(rule, world, tuple(range(size))), world)

    def test_in_other_orders(self):
        for rule in PLAIN:
            world = some_world(rule, 5, 2)
            for size in range(6):
                for points in itertools.permutations(range(5), size):
                    told = part(rule, world, points)
                    self.assertEqual(told, slow_part(rule, world, points))
                    self.assertIs(look_world(rule, told), True)

    def test_marks_and_ways_stay(self):
        for rule in PLAIN:
            world = some_world(rule, 30, 5)
            points = tuple(range(0, 30, 7)) + tuple(range(29, 0, -5))[:-1]
            points = tuple(dict.fromkeys(points))
            told = part(rule, world, points)
            for one in range(len(points)):
                self.assertEqual(told[one][0], world[points[one]][0])
                for other in range(len(points)):
                    if one != other:
                        there = way(rule, world, points[one], points[other])
                        self.assertEqual(way(rule, told, one, other), there)

    def test_part_of_a_part(self):
        for rule in PLAIN:
            world = some_world(rule, 7, 6)
            outer = (5, 0, 6, 2, 3)
            for size in range(6):
                for inner in itertools.permutations(range(5), size):
                    straight = tuple(outer[point] for point in inner)
                    self.assertEqual(part(rule, part(rule, world, outer), inner), part(rule, world, straight))

    def test_there_and_back_again(self):
        for rule in PLAIN:
            world = some_world(rule, 6, 8)
            for order in itertools.permutations(range(6)):
                home = tuple(order.index(point) for point in range(6))
                self.assertEqual(part(rule, part(rule, world, order), home), world)

    def test_a_list_of_points_is_not_changed(self):
        world = some_world(MIXED, 5, 2)
        points = [4, 0, 2]
        self.assertEqual(part(MIXED, world, points), part(MIXED, world, (4, 0, 2)))
        self.assertEqual(points, [4, 0, 2])


class LeastForms(unittest.TestCase):
    def test_told_ones(self):
        self.assertEqual(least_form(ORDER, ()), ())
        self.assertEqual(least_form(MIXED, ((1, ()),)), ((1, ()),))
        self.assertEqual(least_form(ORDER, ((0, ()), (0, (1,)))), ((0, ()), (0, (0,))))
        self.assertEqual(least_form(MIXED, ((1, ()), (0, (2,)))), ((0, ()), (1, (1,))))
        # of three in a row the topmost point comes first: both others stand below it
        row = ((0, ()), (0, (1,)), (0, (1, 1)))
        self.assertEqual(least_form(ORDER, row), ((0, ()), (0, (0,)), (0, (0, 0))))
        # of three in a ring no point is above both others
        ring = ((0, ()), (0, (1,)), (0, (0, 1)))
        self.assertEqual(least_form(ORDER, ring), ((0, ()), (0, (0,)), (0, (1, 0))))

    def test_all_small_worlds(self):
        for rule in PLAIN:
            for size in range(4):
                for world in worlds_of(rule, size):
                    self.assertEqual(least_form(rule, world), slow_least_form(rule, world))

    def test_larger_worlds(self):
        for rule in PLAIN:
            for size in (4, 5, 6):
                for seed in range(3):
                    world = some_world(rule, size, seed)
                    self.assertEqual(least_form(rule, world), slow_least_form(rule, world))

    def test_alike_in_all_orders(self):
        for rule in (GRAPH, ORDER, MIXED, TURNED, COLOURS):
            for size in range(7):
                world = some_world(rule, size, size + 11)
                told = least_form(rule, world)
                self.assertIs(look_world(rule, told), True)
                self.assertEqual(least_form(rule, told), told)
                for order in itertools.permutations(range(size)):
                    self.assertEqual(least_form(rule, part(rule, world, order)), told)

    def test_unlike_worlds_stay_unlike(self):
        # of four points that are near or far there are eleven, of four in a tournament four
        for rule, count in ((GRAPH, 11), (ORDER, 4)):
            self.assertEqual(len({least_form(rule, world) for world in worlds_of(rule, 4)}), count)

    def test_all_points_alike(self):
        for size in range(8):
            world = tuple((0, (0,) * ahead) for ahead in range(size))
            self.assertEqual(least_form(GRAY, world), world)

    def test_barred_threes_change_nothing(self):
        world = some_world(MIXED, 5, 1)
        rule = with_barred(MIXED, figures(MIXED))
        self.assertEqual(least_form(rule, world), least_form(MIXED, world))


class Figures(unittest.TestCase):
    def test_told_ones(self):
        self.assertEqual(figures(GRAY), [((0, ()), (0, (0,)), (0, (0, 0)))])
        self.assertEqual(figures(ORDER), [((0, ()), (0, (0,)), (0, (0, 0))), ((0, ()), (0, (0,)), (0, (1, 0)))])
        self.assertEqual(figures(GRAPH), [
            ((0, ()), (0, (0,)), (0, (0, 0))),
            ((0, ()), (0, (0,)), (0, (0, 1))),
            ((0, ()), (0, (0,)), (0, (1, 1))),
            ((0, ()), (0, (1,)), (0, (1, 1))),
        ])

    def test_all_of_each_rule(self):
        for rule in all_shapes() + list(PLAIN):
            told = figures(rule)
            self.assertIs(type(told), list)
            self.assertEqual(told, sorted({slow_least_form(rule, world) for world in worlds_of(rule, 3)}))

    def test_all_of_them_may_be_barred(self):
        for rule in all_shapes():
            every = with_barred(rule, figures(rule))
            self.assertIs(look_rule(every), True)
            self.assertEqual(figures(every), figures(rule))

    def test_told_anew(self):
        for rule in PLAIN:
            told = figures(rule)
            held = list(told)
            told.reverse()
            told.append(None)
            told[0] = ()
            self.assertEqual(figures(rule), held)
            self.assertIsNot(figures(rule), figures(rule))


if __name__ == "__main__":
    unittest.main()
