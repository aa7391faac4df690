import itertools
import random
import unittest

from layworld.always import unlaid
from layworld.errors import NoRule, NoWish
from layworld.growth import Growth
from layworld.parts import part
from layworld.threes import first_barred, wishes
from layworld.worlds import look_world
from tests.samples import (
    BESIDE, CLASSES, COLOURED_ROW, COLOURS, COUPLES, GRAPH, GRAY, MIXED, NESTED, NO_THREE, NO_TRIANGLE, NO_TUPLES,
    ORDER, PENTAGON, PLAIN, RINGED, ROW, SPLIT, TURNED, Table,
    all_shapes, mixed_bars, shaped, slow_part, slow_wishes,
)

LAYING = PLAIN + (ROW, CLASSES, COUPLES, NO_TRIANGLE, NO_THREE, RINGED, BESIDE, NESTED, COLOURED_ROW)


def straight(rule):
    return tuple(range(len(rule[1])))


def grown(rule, steps, order=None):
    growth = Growth(rule, order or straight(rule))
    for number in range(steps):
        growth.step()
    return growth


def slow_tuples(points):
    """The rising tuples of points in the fair order."""
    yield ()
    for last in range(points):
        for size in range(last + 1):
            for heads in itertools.combinations(range(last), size):
                yield heads + (last,)


class SlowGrowth:
    """Wishes met in the fair order, by a table of all pairs."""

    def __init__(self, rule, order):
        self.table = Table(rule)
        self.rule = rule
        self.order = order

    def meet(self, points, mark, ways):
        known = dict(zip(points, ways))
        for point in range(len(self.table.marks)):
            if point not in known and self.table.is_like(known, mark, point):
                return point
        return self.table.lay(known, mark, self.order)

    def fair(self, most):
        """The first steps, at most so many: wishes and the points that meet them."""
        told = []
        for points in slow_tuples(40):
            if points and points[-1] >= len(self.table.marks):
                return told
            for mark, ways in slow_wishes(self.rule, slow_part(self.rule, self.table.world(), points)):
                if len(told) == most:
                    return told
                told.append(((points, mark, ways), self.meet(points, mark, ways)))


class Begun(unittest.TestCase):
    def refused(self, rule, order, word):
        with self.subTest(order=order):
            with self.assertRaises(NoRule) as caught:
                Growth(rule, order)
            self.assertEqual(caught.exception.word, word)

    def test_begins_without_points(self):
        for rule in LAYING:
            for order in itertools.permutations(straight(rule)):
                growth = Growth(rule, order)
                self.assertEqual(growth.world(), ())
                self.assertEqual(growth.steps(), 0)
                self.assertEqual(growth.next_wish(), ((), 0, ()))

    def test_rules_that_dont_always_lay(self):
        for rule in (SPLIT, PENTAGON):
            self.refused(rule, (0, 1), "lays")
            self.refused(rule, (1, 0), "lays")
            # behind that comes the order
            self.refused(rule, (0, 0), "lays")
            self.refused(rule, None, "lays")
            self.refused(rule, [0, 1], "lays")

    def test_wrong_orders(self):
        for order in NO_TUPLES + ([0, 1, 2], "012", (0, 1), (0, 1, 2, 3), (0, 1, 2, 0), (0, 1, 1), (0, 0, 0), (1, 2, 3),
                                  (-1, 0, 1), (0, 1, -1), (), (0,), ((0, 1, 2),), (0, 1, "2"), (0, 1, None),
                                  (0, 1, (2,)), (0, True, 2), (False, 1, 2), (False, True, 2), (0, 1, [2])):
            self.refused(MIXED, order, "order")
        for order in ((False,), (1,), (), [0], 0, None, (0, 0), "0", (None,)):
            self.refused(GRAY, order, "order")
        for order in itertools.permutations(range(3)):
            self.assertEqual(Growth(MIXED, order).world(), ())


class Wishes(unittest.TestCase):
    def refused(self, growth, points, mark, ways):
        with self.subTest(points=points, mark=mark, ways=ways):
            before = (growth.world(), growth.steps(), growth.next_wish())
            with self.assertRaises(NoWish):
                growth.wish(points, mark, ways)
            self.assertEqual((growth.world(), growth.steps(), growth.next_wish()), before)

    def test_a_new_point_where_none_meets_it(self):
        growth = Growth(GRAPH, (0, 1))
        self.assertEqual(growth.wish((), 0, ()), 0)
        self.assertEqual(growth.wish((0,), 0, (1,)), 1)
        self.assertEqual(growth.wish((0,), 0, (0,)), 2)
        self.assertEqual(growth.world(), ((0, ()), (0, (1,)), (0, (0, 0))))
        self.assertEqual(growth.wish((2,), 0, (1,)), 3)
        self.assertEqual(growth.world()[3], (0, (0, 0, 1)))
        self.assertEqual(growth.steps(), 0)

    def test_the_least_point_that_meets_it(self):
        growth = Growth(GRAPH, (1, 0))
        for number in range(4):
            growth.wish(tuple(range(number)), 0, (0,) * number)
        self.assertEqual(growth.world(), tuple((0, (0,) * ahead) for ahead in range(4)))
        # none of the points that it is over, though these are near to one another
        self.assertEqual(growth.wish((0,), 0, (0,)), 1)
        self.assertEqual(growth.wish((1,), 0, (0,)), 0)
        self.assertEqual(growth.wish((0, 1), 0, (0, 0)), 2)
        self.assertEqual(growth.wish((0, 2), 0, (0, 0)), 1)
        self.assertEqual(growth.wish((), 0, ()), 0)
        self.assertEqual(growth.wish((0, 1, 2), 0, (0, 0, 0)), 3)
        self.assertEqual(growth.wish((0, 1, 2, 3), 0, (0, 0, 0, 0)), 4)

    def test_ways_are_the_new_points_own(self):
        growth = Growth(ORDER, (0, 1))
        growth.wish((), 0, ())
        self.assertEqual(growth.wish((0,), 0, (1,)), 1)
        self.assertEqual(growth.world()[1], (0, (1,)))
        # point 0 is below point 1: it meets that wish
        self.assertEqual(growth.wish((1,), 0, (0,)), 0)
        self.assertEqual(growth.wish((1,), 0, (1,)), 2)
        self.assertEqual(growth.world()[2], (0, (0, 1)))

    def test_marks_count(self):
        growth = Growth(MIXED, (0, 1, 2))
        self.assertEqual(growth.wish((), 1, ()), 0)
        self.assertEqual(growth.wish((), 0, ()), 1)
        self.assertEqual(growth.wish((), 1, ()), 0)
        self.assertEqual(growth.wish((0,), 1, (0,)), 2)
        self.assertEqual(growth.wish((0,), 0, (0,)), 1)

    def test_laid_in_the_growths_order_of_ways(self):
        for order in itertools.permutations(range(3)):
            growth = Growth(MIXED, order)
            growth.wish((), 0, ())
            growth.wish((), 1, ())
            self.assertEqual(growth.world()[1], (1, (order[0],)))
            growth.wish((0,), 1, (order[1],))
            self.assertEqual(growth.world()[2], (1, (order[1], order[0])))
            growth.wish((1,), 1, (order[2],))
            self.assertEqual(growth.world()[3], (1, (order[0], order[2], order[0])))

    def test_ways_that_do_not_fill_are_passed_by(self):
        for order, third in (((0, 1), 0), ((1, 0), 1)):
            growth = Growth(ROW, order)
            growth.wish((), 0, ())
            growth.wish((0,), 0, (0,))
            # above point 0, so above point 1, too, whatever way comes first
            self.assertEqual(growth.wish((0,), 0, (1,)), 2)
            self.assertEqual(growth.world()[2], (0, (1, 1)))
            # below point 0: to point 1 it stands in the first way; to point 2 below alone
            self.assertEqual(growth.wish((0, 1), 0, (0, third)), 3)
            self.assertEqual(growth.world()[3], (0, (0, third, 0)))

    def test_points_that_there_arent(self):
        growth = grown(MIXED, 3)
        size = len(growth.world())
        self.assertGreater(size, 1)
        for points in ((size,), (-1,), (0, size), (-1, 0), (size + 5,), (-size,)):
            self.refused(growth, points, 0, (0,) * len(points))

    def test_points_that_dont_rise(self):
        growth = grown(MIXED, 8)
        for points in ((1, 0), (0, 0), (1, 1), (2, 1), (0, 2, 1), (0, 1, 1), (2, 0, 1)):
            self.refused(growth, points, 0, (0,) * len(points))

    def test_points_of_other_kinds(self):
        growth = grown(MIXED, 8)
        for points in NO_TUPLES + ([0], [0, 1], "0", ("0",), (None,), ((0,),), ([],), (0, True), (False,), (True,),
                                   (False, 1), (0, "1"), (0, None)):
            for ways in ((), (0,), (0, 0)):
                self.refused(growth, points, 0, ways)

    def test_marks_that_there_arent(self):
        growth = grown(MIXED, 8)
        for mark in (-1, 2, 9, True, False, None, "0", "red", (), (0,), [0], []):
            self.refused(growth, (), mark, ())
            self.refused(growth, (0,), mark, (0,))

    def test_ways_that_there_arent(self):
        growth = grown(MIXED, 8)
        for number in (-1, 3, 9, True, False, None, "0", "near", (), (0,), [0]):
            self.refused(growth, (0,), 0, (number,))
            self.refused(growth, (0, 1), 0, (0, number))
        for ways in NO_TUPLES + ((), (0, 0), [0], "0", 0):
            self.refused(growth, (0,), 0, ways)
        for ways in ((0,), [], None, "", 0, False):
            self.refused(growth, (), 0, ways)
        for ways in ((0,), (0, 0, 0), [0, 0], (), "00"):
            self.refused(growth, (0, 1), 0, ways)

    def test_what_may_not_stand(self):
        growth = Growth(ROW, (0, 1))
        growth.wish((), 0, ())
        growth.wish((0,), 0, (0,))
        growth.wish((1,), 0, (0,))
        self.assertEqual(growth.world(), ((0, ()), (0, (0,)), (0, (0, 0))))
        # above point 0, but below point 1 that is below point 0
        self.refused(growth, (0, 1), 0, (1, 0))
        self.refused(growth, (0, 2), 0, (1, 0))
        self.refused(growth, (0, 1, 2), 0, (0, 1, 0))
        self.refused(growth, (0, 1, 2), 0, (1, 1, 0))
        couple = Growth(NO_THREE, (0,))
        couple.wish((), 0, ())
        couple.wish((0,), 0, (0,))
        self.refused(couple, (0, 1), 0, (0, 0))

    def test_a_wish_before_any_point(self):
        growth = Growth(GRAPH, (0, 1))
        self.refused(growth, (0,), 0, (0,))
        self.refused(growth, (), 1, ())
        self.assertEqual(growth.wish((), 0, ()), 0)

    def test_against_a_table(self):
        chance = random.Random(11)
        for rule in LAYING:
            for order in list(itertools.permutations(straight(rule)))[::2]:
                growth = Growth(rule, order)
                slow = SlowGrowth(rule, order)
                for number in range(25):
                    world = growth.world()
                    size = int(chance.random() * min(4, len(world) + 1))
                    points = tuple(sorted(chance.sample(range(len(world)), size)))
                    free = wishes(rule, part(rule, world, points))
                    if free:
                        mark, ways = free[int(chance.random() * len(free))]
                        point = growth.wish(points, mark, ways)
                        self.assertEqual(point, slow.meet(points, mark, ways))
                        self.assertEqual(growth.world(), slow.table.world())
                        self.assertEqual(growth.world()[:len(world)], world)
                        self.assertNotIn(point, points)
                        told = slow_part(rule, growth.world(), points + (point,))
                        self.assertEqual(told[-1], (mark, ways))
                        self.assertIs(look_world(rule, growth.world()), True)
                self.assertIsNone(first_barred(rule, growth.world()))
                self.assertEqual(growth.steps(), 0)

    def test_thirty_points(self):
        growth = Growth(NO_TRIANGLE, (0, 1))
        for number in range(30):
            self.assertEqual(growth.wish(tuple(range(number)), 0, (1,) * number), number)
        self.assertEqual(growth.wish(tuple(range(30)), 0, (0, 1) * 15), 30)
        self.assertEqual(growth.wish(tuple(range(0, 30, 2)), 0, (0,) * 15), 30)
        self.assertIsNone(first_barred(NO_TRIANGLE, growth.world()))


class Steps(unittest.TestCase):
    def test_first_steps(self):
        growth = Growth(GRAPH, (0, 1))
        expected = [
            (((), 0, ()), 0),
            (((0,), 0, (0,)), 1),
            (((0,), 0, (1,)), 2),
            (((1,), 0, (0,)), 0),
            (((1,), 0, (1,)), 3),
            (((0, 1), 0, (0, 0)), 4),
        ]
        self.assertEqual([growth.step() for number in range(3)], expected[:3])
        self.assertEqual(growth.world(), ((0, ()), (0, (0,)), (0, (1, 0))))
        # point 2 is near to point 1, so a new point is grown that is far from it
        self.assertEqual([growth.step() for number in range(3)], expected[3:])
        self.assertEqual(growth.world()[3], (0, (0, 1, 0)))
        self.assertEqual(growth.steps(), 6)

    def test_marks_come_first(self):
        growth = Growth(COLOURS, (0, 1))
        self.assertEqual([growth.step() for number in range(3)], [(((), mark, ()), mark) for mark in range(3)])
        self.assertEqual(growth.next_wish(), ((0,), 0, (0,)))

    def test_the_fair_order(self):
        growth = Growth(GRAY, (0,))
        told = [growth.step() for number in range(40)]
        tuples = list(itertools.islice(slow_tuples(10), 40))
        self.assertEqual([wish[0] for wish, point in told], tuples)
        self.assertEqual(tuples[:9], [(), (0,), (1,), (0, 1), (2,), (0, 2), (1, 2), (0, 1, 2), (3,)])
        self.assertEqual(tuples[9:16], [(0, 3), (1, 3), (2, 3), (0, 1, 3), (0, 2, 3), (1, 2, 3), (0, 1, 2, 3)])
        self.assertEqual(tuples[16:22], [(4,), (0, 4), (1, 4), (2, 4), (3, 4), (0, 1, 4)])

    def test_against_a_table(self):
        for rule in LAYING:
            for order in itertools.permutations(straight(rule)):
                growth = Growth(rule, order)
                slow = SlowGrowth(rule, order)
                expected = slow.fair(60)
                for number, (wish, point) in enumerate(expected):
                    self.assertEqual(growth.steps(), number)
                    self.assertEqual(growth.next_wish(), wish)
                    world = growth.world()
                    self.assertEqual(growth.step(), (wish, point))
                    self.assertEqual(growth.world()[:len(world)], world)
                self.assertEqual(growth.world(), slow.table.world())
                self.assertEqual(growth.steps(), len(expected))
                if len(expected) < 60:
                    self.assertIsNone(growth.next_wish())
                    self.assertIsNone(growth.step())
                    self.assertEqual(growth.steps(), len(expected))

    def test_more_rules_that_always_lay(self):
        seen = 0
        for shape in all_shapes():
            for seed in range(10):
                rule = mixed_bars(shape, seed, 15 + 5 * (seed % 3))
                if rule[2] and unlaid(rule) is None:
                    seen += 1
                    growth = Growth(rule, straight(rule))
                    expected = SlowGrowth(rule, straight(rule)).fair(25)
                    self.assertEqual([growth.step() for step in expected], expected)
        self.assertGreater(seen, 10)

    def test_its_end(self):
        growth = Growth(NO_THREE, (0,))
        told = [growth.step() for number in range(6)]
        steps = [(((), 0, ()), 0), (((0,), 0, (0,)), 1), (((1,), 0, (0,)), 0)]
        self.assertEqual(told, steps + [None, None, None])
        self.assertEqual(growth.steps(), 3)
        self.assertEqual(growth.world(), ((0, ()), (0, (0,))))
        self.assertIsNone(growth.next_wish())
        # every wish over grown points is met by now
        self.assertEqual(growth.wish((1,), 0, (0,)), 0)
        self.assertEqual(growth.wish((), 0, ()), 0)
        self.assertIsNone(growth.step())
        self.assertEqual(growth.steps(), 3)

    def test_another_end(self):
        # three points in a ring, and no more
        growth = Growth(RINGED, (0, 1))
        count = 0
        while growth.step() is not None:
            count += 1
        self.assertEqual(growth.steps(), count)
        self.assertEqual(len(growth.world()), 3)
        for size in range(4):
            for points in itertools.combinations(range(3), size):
                for mark, ways in slow_wishes(RINGED, slow_part(RINGED, growth.world(), points)):
                    self.assertIn(growth.wish(points, mark, ways), range(3))
        self.assertEqual(len(growth.world()), 3)
        self.assertIsNone(growth.next_wish())

    def test_asking_for_the_next_wish_does_nothing(self):
        for rule in (GRAPH, ROW, NO_THREE, MIXED):
            one = Growth(rule, straight(rule))
            other = Growth(rule, straight(rule))
            for number in range(20):
                self.assertEqual(other.next_wish(), other.next_wish())
                expected = other.next_wish()
                told = one.step()
                self.assertEqual(told and told[0], expected)
                self.assertEqual(other.step(), told)
                self.assertEqual(one.world(), other.world())
                self.assertEqual(one.steps(), other.steps())

    def test_wishes_asked_between_steps(self):
        chance = random.Random(5)
        for rule in (GRAPH, ROW, MIXED, TURNED, COUPLES, BESIDE):
            order = straight(rule)[::-1]
            growth = Growth(rule, order)
            slow = SlowGrowth(rule, order)
            place = slow_tuples(40)
            due = []
            for number in range(30):
                while not due:
                    points = next(place)
                    over = slow_part(rule, slow.table.world(), points)
                    due = [(points, mark, ways) for mark, ways in slow_wishes(rule, over)]
                self.assertEqual(growth.next_wish(), due[0])
                self.assertEqual(growth.step(), (due[0], slow.meet(*due[0])))
                due = due[1:]
                world = growth.world()
                points = tuple(sorted(chance.sample(range(len(world)), min(2, len(world)))))
                mark, ways = slow_wishes(rule, slow_part(rule, world, points))[-1]
                self.assertEqual(growth.wish(points, mark, ways), slow.meet(points, mark, ways))
                self.assertEqual(growth.steps(), number + 1)
            self.assertEqual(growth.world(), slow.table.world())

    def test_a_wish_ahead_of_the_first_step(self):
        growth = Growth(MIXED, (0, 1, 2))
        self.assertEqual(growth.wish((), 1, ()), 0)
        self.assertEqual(growth.step(), (((), 0, ()), 1))
        self.assertEqual(growth.step(), (((), 1, ()), 0))
        self.assertEqual(growth.steps(), 2)

    def test_each_wish_stays_met(self):
        for rule in LAYING:
            growth = Growth(rule, straight(rule))
            met = [step for step in [growth.step() for number in range(60)] if step is not None]
            world = growth.world()
            self.assertIsNone(first_barred(rule, world))
            for (points, mark, ways), point in met:
                self.assertNotIn(point, points)
                self.assertEqual(slow_part(rule, world, points + (point,))[-1], (mark, ways))
                self.assertEqual(growth.wish(points, mark, ways), point)
            self.assertEqual(growth.world(), world)

    def test_growths_are_apart(self):
        one = grown(ROW, 5)
        other = grown(ROW, 9)
        self.assertEqual(one.steps(), 5)
        self.assertEqual(one.world(), grown(ROW, 5).world())
        self.assertEqual(other.world(), grown(ROW, 9).world())
        self.assertEqual(grown(shaped(3, (0,)), 30).steps(), 30)


if __name__ == "__main__":
    unittest.main()
