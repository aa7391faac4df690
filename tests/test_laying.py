import itertools
import random
import time
import unittest

from layworld.always import unlaid
from layworld.errors import NoLaying, NoShare
from layworld.laying import laid
from layworld.likes import in_common
from layworld.parts import part
from layworld.threes import first_barred
from tests.samples import (
    BARRED, BESIDE, CLASSES, COLOURED_ROW, COUPLES, GRAPH, MIXED, NESTED, NO_THREE, NO_TRIANGLE, ORDER, PENTAGON, PLAIN,
    ROW, SPLIT, TURNED, Table,
    all_shapes, mixed_bars, slow_part, slow_wishes, some_standing, some_world, standing_worlds,
)


def slow_laid(rule, one, other, pairs):
    """By a table of all pairs; a list of the two numbers where it is refused."""
    table = Table(rule, one)
    theirs = Table(rule, other)
    places = {there: here for here, there in pairs}
    for number, (mark, ways) in enumerate(other):
        if number not in places:
            known = {place: theirs.ways[number, point] for point, place in places.items()}
            place = table.lay(known, mark, range(len(rule[1])))
            if isinstance(place, list):
                return place + [number]
            places[number] = place
    return (table.world(), tuple(places[number] for number in range(len(other))))


def worlds_that_share(rule, seed, sizes):
    """Two worlds that may stand, and pairs by which they share a part; each mixed by the seed."""
    chance = random.Random(seed)
    one = some_standing(rule, sizes[0], seed)
    size = min(len(one), int(chance.random() * (sizes[0] + 1)))
    ours = chance.sample(range(len(one)), size)
    other = slow_part(rule, one, ours)
    while len(other) < sizes[1]:
        points = slow_wishes(rule, other)
        if not points:
            break
        other += (points[int(chance.random() * len(points))],)
    order = chance.sample(range(len(other)), len(other))
    pairs = [(ours[number], order.index(number)) for number in range(size)]
    chance.shuffle(pairs)
    return one, slow_part(rule, other, order), tuple(pairs)


class Laid(unittest.TestCase):
    def refused(self, rule, one, other, pairs, numbers):
        with self.subTest(one=one, other=other, pairs=pairs):
            with self.assertRaises(NoLaying) as caught:
                laid(rule, one, other, pairs)
            self.assertEqual([caught.exception.one, caught.exception.other], numbers)

    def looked_at(self, rule, one, other, pairs, told):
        world, places = told
        self.assertIsNone(first_barred(rule, world))
        self.assertEqual(world[:len(one)], one)
        self.assertEqual(len(places), len(other))
        self.assertEqual(len(set(places)), len(places))
        self.assertEqual(part(rule, world, places), other)
        for here, there in pairs:
            self.assertEqual(places[there], here)
        self.assertEqual(set(places) | set(range(len(one))), set(range(len(world))))

    def test_worlds_without_points(self):
        for rule in PLAIN + BARRED:
            one = some_standing(rule, 3, 1)
            self.assertEqual(laid(rule, (), (), ()), ((), ()))
            self.assertEqual(laid(rule, one, (), ()), (one, ()))
            self.assertEqual(laid(rule, (), one, ()), (one, tuple(range(len(one)))))

    def test_all_points_shared(self):
        for rule in PLAIN + BARRED:
            world = some_standing(rule, 5, 2)
            size = len(world)
            self.assertEqual(laid(rule, world, world, tuple(zip(range(size), range(size)))), (world, tuple(range(size))))
            order = tuple(range(size))[::-1]
            other = slow_part(rule, world, order)
            self.assertEqual(laid(rule, world, other, tuple(zip(order, range(size)))), (world, order))
            # all of the other alone
            few = order[:2]
            self.assertEqual(laid(rule, world, slow_part(rule, world, few), tuple(zip(few, range(2)))), (world, few))

    def test_no_pairs(self):
        point = ((0, ()),)
        self.assertEqual(laid(GRAPH, point, point, ()), (((0, ()), (0, (0,))), (1,)))
        pair = ((0, ()), (0, (1,)))
        expected = ((0, ()), (0, (1,)), (0, (0, 0)), (0, (0, 0, 1)))
        self.assertEqual(laid(GRAPH, pair, pair, ()), (expected, (2, 3)))

    def test_the_first_way_is_that_of_the_new_point(self):
        point = ((0, ()),)
        # the new point is below the one there
        self.assertEqual(laid(ORDER, point, point, ()), (((0, ()), (0, (0,))), (1,)))
        # shared is point 0; the other's is above it, the one's below: so the new point can be above alone
        one = ((0, ()), (0, (0,)))
        other = ((0, ()), (0, (1,)))
        self.assertEqual(laid(ROW, one, other, ((0, 0),)), (((0, ()), (0, (0,)), (0, (1, 1))), (0, 2)))
        # both are below it: the first way is taken, the new point is below
        self.assertEqual(laid(ROW, one, one, ((0, 0),)), (((0, ()), (0, (0,)), (0, (0, 0))), (0, 2)))

    def test_the_first_way_that_fills_is_taken(self):
        # near to a point that both share: then they are near; else the first way, near, too
        one = ((0, ()), (0, (0,)))
        self.assertEqual(laid(CLASSES, one, one, ((0, 0),)), (((0, ()), (0, (0,)), (0, (0, 0))), (0, 2)))
        self.assertEqual(laid(NO_TRIANGLE, one, one, ((0, 0),)), (((0, ()), (0, (0,)), (0, (0, 1))), (0, 2)))
        far = ((0, ()), (0, (1,)))
        self.assertEqual(laid(CLASSES, far, far, ((0, 0),)), (((0, ()), (0, (1,)), (0, (1, 0))), (0, 2)))
        self.assertEqual(laid(CLASSES, one, far, ((0, 0),)), (((0, ()), (0, (0,)), (0, (1, 1))), (0, 2)))

    def test_put_on_a_point_that_is_there(self):
        one = ((0, ()), (0, (0,)))
        self.assertEqual(laid(NO_THREE, one, one, ((0, 0),)), (one, (0, 1)))
        self.assertEqual(laid(NO_THREE, one, one, ((0, 1),)), (one, (1, 0)))
        self.assertEqual(laid(COUPLES, one, one, ((0, 0),)), (one, (0, 1)))
        self.assertEqual(laid(COUPLES, one, one, ((1, 0),)), (one, (1, 0)))
        # near comes first as a way: so the first of the other's is near to point 0, then no way is left to point 1 but far
        self.assertEqual(laid(COUPLES, ((0, ()), (0, (1,))), ((0, ()),), ()), (((0, ()), (0, (1,)), (0, (0, 1))), (2,)))

    def test_put_on_without_pairs(self):
        # two points that stand near are all there is: the first of the other is laid to point 0, and is then point 1
        pair = ((0, ()), (0, (0,)))
        self.assertEqual(laid(NO_THREE, pair, pair, ()), (pair, (1, 0)))
        self.assertEqual(laid(NO_THREE, pair, ((0, ()),), ()), (pair, (1,)))
        self.assertEqual(laid(NO_THREE, ((0, ()),), pair, ()), (pair, (1, 0)))

    def test_shared_points_behind_count_too(self):
        # the other's point 0 isn't shared, but point 1 is: its way to that one is there from the beginning
        one = ((0, ()), (0, (0,)))
        other = ((0, ()), (0, (0,)))
        world, places = laid(ROW, one, other, ((1, 1),))
        # point 0 of the other is above point 1, as point 0 of the one is: the first way puts it below that one
        self.assertEqual((world, places), (((0, ()), (0, (0,)), (0, (0, 1))), (2, 1)))

    def test_refused(self):
        one = ((0, ()), (0, (0,)))
        other = ((0, ()), (0, (1,)))
        self.refused(SPLIT, one, other, ((0, 0),), [1, 1])
        self.refused(SPLIT, one, other, ((1, 1),), [0, 0])
        self.refused(SPLIT, one, other, ((1, 0),), [0, 1])
        three = ((0, ()), (0, (0,)), (0, (0, 0)))
        self.refused(SPLIT, three, other, ((1, 0),), [0, 1])
        # the first of the other comes behind, near to both; the second one, far from it, can't be laid to point 0
        far = ((0, ()), (0, (1,)), (0, (1, 1)))
        self.refused(SPLIT, one, far, (), [0, 1])

    def test_what_is_told_of_a_rule_that_does_not_lay_is_refused(self):
        for seed in range(60):
            shape = all_shapes()[seed % 14]
            rule = mixed_bars(shape, seed, 30)
            told = unlaid(rule)
            if told is not None:
                base, one, other = told
                size = len(base)
                pairs = tuple(zip(range(size), range(size)))
                self.refused(rule, base + (one,), base + (other,), pairs, [size, size])

    def test_against_a_table(self):
        refused = 0
        put_on = 0
        rules = BARRED + (BESIDE, PENTAGON, COLOURED_ROW) + tuple(
            mixed_bars(shape, seed, share) for shape in all_shapes() for seed, share in ((3, 10), (4, 30)))
        for rule in rules:
            for seed in range(14):
                one, other, pairs = worlds_that_share(rule, seed, (4, 4))
                expected = slow_laid(rule, one, other, pairs)
                if isinstance(expected, list):
                    refused += 1
                    self.refused(rule, one, other, pairs, expected)
                else:
                    told = laid(rule, one, other, pairs)
                    put_on += len(told[0]) < len(one) + len(other) - len(pairs)
                    self.assertEqual(told, expected)
                    self.looked_at(rule, one, other, pairs, told)
        self.assertGreater(refused, 20)
        self.assertGreater(put_on, 20)

    def test_all_small_worlds_over_each_part(self):
        for rule in (ROW, CLASSES, COUPLES, NO_TRIANGLE):
            worlds = [world for size in range(4) for world in standing_worlds(rule, size)]
            for one in worlds[::2]:
                for other in worlds[::3]:
                    for pairs in ((), in_common(rule, one, other)):
                        told = laid(rule, one, other, pairs)
                        self.assertEqual(told, slow_laid(rule, one, other, pairs))
                        self.looked_at(rule, one, other, pairs, told)

    def test_twelve_points_each(self):
        before = time.process_time()
        for rule in (MIXED, TURNED, ROW, NO_TRIANGLE, COUPLES):
            one = some_world(rule, 12, 1) if not rule[2] else tuple((0, (1,) * ahead) for ahead in range(12))
            for pairs in ((), tuple((point, point) for point in range(5))):
                told = laid(rule, one, one, pairs)
                self.looked_at(rule, one, one, pairs, told)
                self.assertEqual(told, slow_laid(rule, one, one, pairs))
        self.assertLess(time.process_time() - before, 20)

    def test_larger_worlds_of_rules_that_always_lay(self):
        for rule in (BESIDE, NESTED, COLOURED_ROW):
            one, other, pairs = worlds_that_share(rule, 5, (5, 5))
            told = laid(rule, one, other, pairs)
            self.looked_at(rule, one, other, pairs, told)
            again = laid(rule, told[0], one, ())
            self.looked_at(rule, told[0], one, (), again)

    def test_the_same_each_time(self):
        one, other, pairs = worlds_that_share(BESIDE, 3, (4, 4))
        self.assertEqual(laid(BESIDE, one, other, pairs), laid(BESIDE, one, other, pairs))


class NoShares(unittest.TestCase):
    def refused(self, rule, one, other, pairs):
        with self.subTest(pairs=pairs):
            with self.assertRaises(NoShare):
                laid(rule, one, other, pairs)

    def test_points_that_there_arent(self):
        one = ((0, ()), (0, (0,)))
        other = ((0, ()), (0, (0,)), (0, (0, 0)))
        for pair in ((2, 0), (0, 3), (-1, 0), (0, -1), (-2, -3), (2, 3), (9, 9), (-1, -1), (-2, 0)):
            self.refused(GRAPH, one, other, (pair,))
            self.refused(GRAPH, one, other, ((0, 0), pair))
        self.refused(GRAPH, (), (), ((0, 0),))
        self.refused(GRAPH, one, (), ((0, 0),))
        self.refused(GRAPH, (), one, ((0, 0),))
        self.assertEqual(laid(GRAPH, one, other, ((1, 2),))[1][2], 1)

    def test_points_twice(self):
        world = ((0, ()), (0, (0,)), (0, (0, 0)))
        for pairs in (((0, 0), (0, 1)), ((0, 0), (1, 0)), ((0, 0), (0, 0)), ((0, 0), (1, 1), (0, 2)),
                      ((2, 1), (1, 0), (0, 1))):
            self.refused(GRAPH, world, world, pairs)

    def test_unlike_parts(self):
        near = ((0, ()), (0, (0,)))
        far = ((0, ()), (0, (1,)))
        self.refused(GRAPH, near, far, ((0, 0), (1, 1)))
        self.refused(GRAPH, near, far, ((0, 1), (1, 0)))
        self.refused(MIXED, ((0, ()),), ((1, ()),), ((0, 0),))
        self.assertEqual(laid(GRAPH, near, near, ((0, 1), (1, 0))), (near, (1, 0)))
        # below and above are each other's way back: only the one order of the pairs shares a part
        below = ((0, ()), (0, (0,)))
        self.refused(ORDER, below, below, ((0, 1), (1, 0)))
        self.refused(ORDER, below, ((0, ()), (0, (1,))), ((0, 0), (1, 1)))
        self.assertEqual(laid(ORDER, below, ((0, ()), (0, (1,))), ((0, 1), (1, 0))), (below, (1, 0)))

    def test_the_order_of_the_pairs_is_free(self):
        world = some_world(TURNED, 5, 3)
        for order in list(itertools.permutations(range(5)))[::11]:
            pairs = tuple((point, point) for point in order)
            self.assertEqual(laid(TURNED, world, world, pairs), (world, (0, 1, 2, 3, 4)))

    def test_what_is_no_pair_of_points(self):
        world = ((0, ()), (0, (0,)))
        for pair in ((0, False), (True, 1), (0,), (0, 0, 0), (), None, 0, "00", ("0", "0"), (None, None), ((0,), (0,))):
            self.refused(GRAPH, world, world, (pair,))

    def test_ahead_of_no_laying(self):
        one = ((0, ()), (0, (0,)))
        other = ((0, ()), (0, (1,)))
        with self.assertRaises(NoLaying):
            laid(SPLIT, one, other, ((0, 0),))
        self.refused(SPLIT, one, other, ((0, 0), (1, 1)))
        self.refused(SPLIT, one, other, ((0, 0), (2, 2)))
        self.refused(SPLIT, one, other, ((0, 0), (0, 0)))


if __name__ == "__main__":
    unittest.main()
