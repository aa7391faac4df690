import itertools
import unittest

from layworld.likes import in_common, likenesses
from layworld.parts import part
from tests.samples import COLOURS, GRAPH, GRAY, MIXED, ORDER, PLAIN, TURNED, slow_part, some_world, worlds_of

PATH = ((0, ()), (0, (0,)), (0, (1, 0)))


def slow_likenesses(rule, one, other):
    orders = itertools.permutations(range(len(other)), len(one))
    return sorted(order for order in orders if slow_part(rule, other, order) == one)


def slow_in_common(rule, one, other):
    """Of all pairs of orders of as many points, by the most pairs and then the least."""
    for size in range(min(len(one), len(other)), -1, -1):
        found = []
        for ours in itertools.combinations(range(len(one)), size):
            alike = slow_part(rule, one, ours)
            for theirs in itertools.permutations(range(len(other)), size):
                if slow_part(rule, other, theirs) == alike:
                    found.append(tuple(zip(ours, theirs)))
        if found:
            return min(found)


class Likenesses(unittest.TestCase):
    def test_of_the_world_without_points(self):
        for rule in PLAIN:
            for size in (0, 1, 4):
                self.assertEqual(likenesses(rule, (), some_world(rule, size, 1)), [()])

    def test_to_fewer_points(self):
        for rule in PLAIN:
            world = some_world(rule, 4, 1)
            for size in range(4):
                self.assertEqual(likenesses(rule, world, world[:size]), [])

    def test_told_ones(self):
        self.assertEqual(likenesses(GRAPH, PATH, PATH), [(0, 1, 2), (2, 1, 0)])
        self.assertEqual(likenesses(GRAPH, ((0, ()), (0, (0,))), PATH), [(0, 1), (1, 0), (1, 2), (2, 1)])
        self.assertEqual(likenesses(GRAPH, ((0, ()), (0, (1,))), PATH), [(0, 2), (2, 0)])
        self.assertEqual(likenesses(MIXED, ((1, ()),), ((1, ()), (0, (0,)), (1, (0, 0)))), [(0,), (2,)])
        self.assertEqual(likenesses(MIXED, ((1, ()),), ((0, ()),)), [])

    def test_ways_that_are_each_others_way_back(self):
        row = ((0, ()), (0, (0,)), (0, (0, 0)))
        turned = ((0, ()), (0, (1,)), (0, (1, 1)))
        ring = ((0, ()), (0, (0,)), (0, (1, 0)))
        self.assertEqual(likenesses(ORDER, row, row), [(0, 1, 2)])
        self.assertEqual(likenesses(ORDER, row, turned), [(2, 1, 0)])
        self.assertEqual(likenesses(ORDER, ring, ring), [(0, 1, 2), (1, 2, 0), (2, 0, 1)])
        self.assertEqual(likenesses(ORDER, row, ring), [])
        self.assertEqual(likenesses(ORDER, ((0, ()), (0, (0,))), row), [(0, 1), (0, 2), (1, 2)])

    def test_all_points_like(self):
        world = tuple((0, (0,) * ahead) for ahead in range(6))
        self.assertEqual(likenesses(GRAY, world, world), list(itertools.permutations(range(6))))
        self.assertEqual(likenesses(GRAY, world[:2], world), list(itertools.permutations(range(6), 2)))

    def test_against_all_orders(self):
        for rule in PLAIN:
            for seed in range(6):
                other = some_world(rule, 5, seed)
                for size in range(6):
                    ones = [some_world(rule, size, seed + 1), slow_part(rule, other, (4, 1, 3, 0, 2)[:size])]
                    for one in ones:
                        self.assertEqual(likenesses(rule, one, other), slow_likenesses(rule, one, other))

    def test_six_points_in_another_order(self):
        for rule in (MIXED, TURNED, COLOURS):
            world = some_world(rule, 6, 4)
            for order in list(itertools.permutations(range(6)))[::77]:
                other = part(rule, world, order)
                told = likenesses(rule, other, world)
                self.assertIn(order, told)
                self.assertEqual(told, slow_likenesses(rule, other, world))

    def test_told_anew(self):
        told = likenesses(GRAPH, PATH, PATH)
        told.clear()
        self.assertEqual(likenesses(GRAPH, PATH, PATH), [(0, 1, 2), (2, 1, 0)])


class InCommon(unittest.TestCase):
    def test_none(self):
        for rule in PLAIN:
            self.assertEqual(in_common(rule, (), ()), ())
            self.assertEqual(in_common(rule, (), some_world(rule, 4, 1)), ())
            self.assertEqual(in_common(rule, some_world(rule, 4, 1), ()), ())
        self.assertEqual(in_common(MIXED, ((0, ()), (0, (1,))), ((1, ()), (1, (1,)))), ())

    def test_one_point(self):
        self.assertEqual(in_common(GRAPH, ((0, ()), (0, (0,))), ((0, ()), (0, (1,)))), ((0, 0),))
        self.assertEqual(in_common(MIXED, ((0, ()), (1, (0,))), ((1, ()), (1, (1,)))), ((1, 0),))

    def test_all_points_of_like_worlds(self):
        for rule in PLAIN:
            world = some_world(rule, 6, 3)
            self.assertEqual(in_common(rule, world, world), tuple((point, point) for point in range(6)))
            other = part(rule, world, (5, 3, 1, 0, 2, 4))
            told = in_common(rule, world, other)
            self.assertEqual([pair[0] for pair in told], list(range(6)))
            self.assertEqual(part(rule, other, [pair[1] for pair in told]), world)
            self.assertEqual(told, slow_in_common(rule, world, other))

    def test_the_least_pair_by_pair(self):
        # of the pairs that begin with (0, 0) none other than (2, 1) comes next; (0, 1), (1, 0) would be two as well
        one = ((0, ()), (0, (0,)), (0, (1, 0)))
        other = ((0, ()), (0, (1,)))
        self.assertEqual(in_common(GRAPH, one, other), ((0, 0), (2, 1)))
        # the first point of the one has no fellow
        self.assertEqual(in_common(MIXED, ((1, ()), (0, (0,)), (0, (0, 0))), ((0, ()), (0, (0,)))), ((1, 0), (2, 1)))
        # more pairs go ahead of lesser ones
        one = ((0, ()), (0, (1,)), (0, (1, 0)), (0, (1, 0, 0)))
        other = ((0, ()), (0, (0,)), (0, (0, 0)))
        self.assertEqual(in_common(GRAPH, one, other), ((1, 0), (2, 1), (3, 2)))

    def test_ways_that_are_each_others_way_back(self):
        row = ((0, ()), (0, (0,)), (0, (0, 0)))
        turned = ((0, ()), (0, (1,)), (0, (1, 1)))
        ring = ((0, ()), (0, (0,)), (0, (1, 0)))
        self.assertEqual(in_common(ORDER, row, turned), ((0, 2), (1, 1), (2, 0)))
        self.assertEqual(in_common(ORDER, row, ring), ((0, 0), (1, 1)))

    def test_small_worlds_against_all_pairs(self):
        for rule in (GRAPH, ORDER, MIXED):
            worlds = worlds_of(rule, 3)[::5] + worlds_of(rule, 2)
            for one in worlds[::2]:
                for other in worlds[::3]:
                    self.assertEqual(in_common(rule, one, other), slow_in_common(rule, one, other))

    def test_larger_worlds_against_all_pairs(self):
        for rule in PLAIN:
            for seed in range(4):
                one = some_world(rule, 5, seed)
                other = some_world(rule, 4, seed + 9)
                self.assertEqual(in_common(rule, one, other), slow_in_common(rule, one, other))
                self.assertEqual(in_common(rule, other, one), slow_in_common(rule, other, one))

    def test_six_points_each(self):
        for rule in PLAIN:
            one = some_world(rule, 6, 5)
            other = some_world(rule, 6, 8)
            told = in_common(rule, one, other)
            self.assertEqual(told, tuple(sorted(told)))
            ours = [pair[0] for pair in told]
            theirs = [pair[1] for pair in told]
            self.assertEqual(part(rule, one, ours), part(rule, other, theirs))
            self.assertEqual(len(told), len(in_common(rule, other, one)))
            self.assertEqual(told, in_common(rule, one, other))


if __name__ == "__main__":
    unittest.main()
