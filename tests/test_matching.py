import itertools
import random
import unittest

from layworld.errors import NoShare, NoWish
from layworld.growth import Growth
from layworld.likes import in_common
from layworld.matching import Matching
from layworld.parts import part
from tests.samples import (
    BESIDE, CLASSES, COLOURED_ROW, COUPLES, GRAPH, GRAY, MIXED, NESTED, NO_THREE, NO_TRIANGLE, ORDER, PLAIN, RINGED,
    ROW, TURNED, Table, slow_part,
)

LAYING = PLAIN + (ROW, CLASSES, COUPLES, NO_TRIANGLE, NO_THREE, RINGED, BESIDE, NESTED, COLOURED_ROW)


def grown(rule, steps, turned=False):
    order = tuple(range(len(rule[1])))
    growth = Growth(rule, order[::-1] if turned else order)
    for number in range(steps):
        growth.step()
    return growth


class Matched(unittest.TestCase):
    def shared(self, matching, one, other):
        """The pairs are a shared part, sorted."""
        pairs = matching.pairs()
        self.assertEqual(pairs, sorted(pairs))
        ours = [pair[0] for pair in pairs]
        theirs = [pair[1] for pair in pairs]
        self.assertEqual(len(set(ours)), len(ours))
        self.assertEqual(len(set(theirs)), len(theirs))
        self.assertEqual(slow_part(one.rule, one.world(), ours), slow_part(one.rule, other.world(), theirs))

    def test_begins_with_its_pairs(self):
        one = grown(MIXED, 6)
        other = grown(MIXED, 6)
        self.assertEqual(Matching(one, other, ()).pairs(), [])
        self.assertEqual(Matching(one, other, []).pairs(), [])
        pairs = in_common(MIXED, one.world(), other.world())
        self.assertEqual(Matching(one, other, pairs).pairs(), list(pairs))
        self.assertEqual(Matching(one, other, list(pairs)[::-1]).pairs(), list(pairs))
        self.assertEqual(one.world(), grown(MIXED, 6).world())

    def test_the_askers_lists_are_the_askers(self):
        one = grown(GRAPH, 4)
        other = grown(GRAPH, 4)
        pairs = [(0, 0)]
        matching = Matching(one, other, pairs)
        pairs.append((1, 1))
        self.assertEqual(matching.pairs(), [(0, 0)])
        matching.pairs().clear()
        self.assertEqual(matching.pairs(), [(0, 0)])
        matching.on(1)
        self.assertEqual(pairs, [(0, 0), (1, 1)])
        matching.step().clear()
        self.shared(matching, one, other)

    def test_no_share(self):
        one = grown(GRAPH, 6)
        other = grown(GRAPH, 6)
        size = len(one.world())
        wrong = [((size, 0),), ((0, size),), ((-1, 0),), ((0, -1),), ((0, 0), (0, 1)), ((0, 0), (1, 0)),
                 ((0, 0), (0, 0)), ((0, 0), (1, 2)), ((0, 1), (1, 0), (9, 9))]
        self.assertEqual(one.world()[:3], ((0, ()), (0, (0,)), (0, (1, 0))))
        for pairs in wrong:
            for kind in (tuple, list):
                with self.subTest(pairs=pairs):
                    with self.assertRaises(NoShare):
                        Matching(one, other, kind(pairs))
        self.assertEqual(Matching(one, other, ((0, 2), (1, 1), (2, 0))).pairs(), [(0, 2), (1, 1), (2, 0)])

    def test_no_share_by_marks_and_by_turned_ways(self):
        one = grown(MIXED, 2)
        self.assertEqual(one.world()[0][0] == one.world()[1][0], False)
        with self.assertRaises(NoShare):
            Matching(one, grown(MIXED, 2), ((0, 1),))
        with self.assertRaises(NoShare):
            Matching(grown(ORDER, 2), grown(ORDER, 2), ((0, 1), (1, 0)))
        with self.assertRaises(NoShare):
            Matching(grown(ORDER, 0), grown(ORDER, 2), ((0, 0),))

    def test_on_and_back_of_points_with_a_fellow(self):
        one = grown(GRAPH, 6)
        other = grown(GRAPH, 6)
        matching = Matching(one, other, [(0, 2), (1, 1), (2, 0)])
        before = (one.world(), other.world())
        self.assertEqual([matching.on(point) for point in range(3)], [2, 1, 0])
        self.assertEqual([matching.back(point) for point in range(3)], [2, 1, 0])
        self.assertEqual((one.world(), other.world()), before)
        self.assertEqual(matching.pairs(), [(0, 2), (1, 1), (2, 0)])

    def test_on_asks_the_second_growth(self):
        one = grown(GRAPH, 3)
        other = grown(GRAPH, 0)
        matching = Matching(one, other, [])
        self.assertEqual(matching.on(2), 0)
        self.assertEqual(matching.on(0), 1)
        self.assertEqual(matching.on(1), 2)
        self.assertEqual(one.world(), ((0, ()), (0, (0,)), (0, (1, 0))))
        self.assertEqual(other.world(), ((0, ()), (0, (1,)), (0, (0, 0))))
        self.assertEqual(matching.pairs(), [(0, 1), (1, 2), (2, 0)])
        self.assertEqual(other.steps(), 0)
        self.assertEqual([matching.back(point) for point in range(3)], [2, 0, 1])

    def test_back_asks_the_first_growth(self):
        one = grown(ORDER, 0)
        other = grown(ORDER, 2)
        self.assertEqual(other.world(), ((0, ()), (0, (0,))))
        matching = Matching(one, other, ())
        self.assertEqual(matching.back(1), 0)
        self.assertEqual(matching.back(0), 1)
        self.assertEqual(one.world(), ((0, ()), (0, (1,))))
        self.assertEqual(matching.pairs(), [(0, 1), (1, 0)])
        self.assertEqual(matching.on(0), 1)

    def test_the_least_point_that_meets_the_wish_is_the_fellow(self):
        one = grown(GRAPH, 12)
        other = grown(GRAPH, 12)
        matching = Matching(one, other, [(0, 1)])
        world = other.world()
        # its fellow is to be to point 1 as point 1 is to point 0: near; point 0 is the least such point
        self.assertEqual(matching.on(1), 0)
        self.assertEqual(other.world(), world)
        self.assertEqual(matching.pairs(), [(0, 1), (1, 0)])

    def test_points_that_there_arent(self):
        one = grown(GRAPH, 4)
        other = grown(GRAPH, 2)
        matching = Matching(one, other, [(0, 0)])
        before = (one.world(), other.world())
        for point in (-1, -2, len(one.world()), 99, True, False):
            with self.assertRaises(NoWish):
                matching.on(point)
        for point in (-1, -2, len(other.world()), 99, True, False):
            with self.assertRaises(NoWish):
                matching.back(point)
        self.assertEqual((one.world(), other.world(), matching.pairs()), before + ([(0, 0)],))

    def test_growths_as_they_have_grown_by_then(self):
        one = grown(GRAPH, 0)
        other = grown(GRAPH, 0)
        matching = Matching(one, other, [])
        self.assertEqual(matching.step(), [])
        with self.assertRaises(NoWish):
            matching.on(0)
        one.step()
        self.assertEqual(matching.on(0), 0)
        self.assertEqual(len(other.world()), 1)
        other.step()
        other.step()
        self.assertEqual(matching.step(), [(1, 1)])
        self.shared(matching, one, other)

    def test_steps(self):
        one = grown(MIXED, 1)
        other = grown(MIXED, 2)
        matching = Matching(one, other, [])
        # point 0 of either is red; the second one's point 1 is blue, and the first one has none yet
        self.assertEqual(matching.step(), [(0, 0), (1, 1)])
        self.assertEqual(matching.step(), [])
        self.assertEqual(matching.pairs(), [(0, 0), (1, 1)])
        one.step()
        one.step()
        self.assertEqual(len(one.world()), 3)
        self.assertEqual(matching.step(), [(2, 2)])
        other.step()
        self.shared(matching, one, other)

    def test_a_step_goes_on_ahead_of_back(self):
        one = grown(GRAPH, 3)
        other = grown(GRAPH, 3, True)
        self.assertEqual(other.world()[1], (0, (0,)))
        self.assertEqual(len(one.world()), 3)
        matching = Matching(one, other, [(0, 2)])
        before = other.world()
        came = matching.step()
        self.assertEqual(came[0][0], 1)
        self.assertEqual(came[0][1], matching.on(1))
        left = [point for point in range(len(before)) if point != 2 and point != came[0][1]]
        self.assertEqual(came[1][1], left[0])
        self.assertEqual(matching.pairs(), sorted([(0, 2)] + came))

    def test_steps_against_a_table(self):
        for rule in LAYING:
            one = grown(rule, 9)
            other = grown(rule, 14, True)
            tables = [Table(rule, one.world()), Table(rule, other.world())]
            orders = [tuple(range(len(rule[1]))), tuple(range(len(rule[1])))[::-1]]
            fellows = [{}, {}]
            matching = Matching(one, other, [])
            for number in range(12):
                expected = []
                for side in (0, 1):
                    alone = [point for point in range(len(tables[side].marks)) if point not in fellows[side]]
                    if alone:
                        fellow = self.matched(tables[side], tables[1 - side], fellows[side], alone[0], orders[1 - side])
                        fellows[side][alone[0]] = fellow
                        fellows[1 - side][fellow] = alone[0]
                        expected.append((alone[0], fellow) if side == 0 else (fellow, alone[0]))
                self.assertEqual(matching.step(), expected)
                self.assertEqual(one.world(), tables[0].world())
                self.assertEqual(other.world(), tables[1].world())
                self.assertEqual(matching.pairs(), sorted(fellows[0].items()))
                self.shared(matching, one, other)

    def matched(self, source, target, fellows, point, order):
        known = {fellow: source.ways[point, own] for own, fellow in fellows.items()}
        for there in range(len(target.marks)):
            if there not in known and target.is_like(known, source.marks[point], there):
                return there
        return target.lay(known, source.marks[point], order)

    def test_steps_to_the_end(self):
        for rule in LAYING:
            one = grown(rule, 10)
            other = grown(rule, 10, True)
            matching = Matching(one, other, ())
            count = 0
            while len(one.world()) <= 30 and matching.step():
                count += 1
            self.assertGreater(count, 0)
            self.shared(matching, one, other)
            if len(one.world()) <= 30:
                self.assertEqual(matching.step(), [])
                self.assertEqual(len(matching.pairs()), len(one.world()))
                self.assertEqual(len(one.world()), len(other.world()))

    def test_on_and_back_at_will(self):
        chance = random.Random(3)
        for rule in LAYING:
            one = grown(rule, 6)
            other = grown(rule, 8, True)
            pairs = in_common(rule, one.world()[:4], other.world()[:4])[:2]
            matching = Matching(one, other, pairs)
            before = (one.world(), other.world())
            for number in range(12):
                if chance.random() < 0.5:
                    point = int(chance.random() * len(one.world()))
                    fellow = matching.on(point)
                    self.assertIn((point, fellow), matching.pairs())
                    self.assertEqual(matching.back(fellow), point)
                else:
                    point = int(chance.random() * len(other.world()))
                    fellow = matching.back(point)
                    self.assertIn((fellow, point), matching.pairs())
                    self.assertEqual(matching.on(fellow), point)
                self.shared(matching, one, other)
            self.assertEqual(set(pairs) - set(matching.pairs()), set())
            # nothing that was grown is changed
            self.assertEqual(one.world()[:len(before[0])], before[0])
            self.assertEqual(other.world()[:len(before[1])], before[1])

    def test_each_part_in_common_is_matched_on(self):
        for rule in (ROW, CLASSES, TURNED, GRAY):
            for ours in itertools.combinations(range(3), 2):
                one = grown(rule, 9)
                other = grown(rule, 9, True)
                for theirs in itertools.permutations(range(len(other.world())), 2):
                    pairs = tuple(zip(ours, theirs))
                    if part(rule, one.world(), ours) == part(rule, other.world(), theirs):
                        matching = Matching(one, other, pairs)
                        matching.step()
                        self.shared(matching, one, other)
                        self.assertEqual(set(pairs) - set(matching.pairs()), set())
                    else:
                        with self.assertRaises(NoShare):
                            Matching(one, other, pairs)


if __name__ == "__main__":
    unittest.main()
