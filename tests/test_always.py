import itertools
import time
import unittest

from layworld.always import is_put_on, is_unlaid, put_on, unlaid
from tests.samples import (
    BARRED, BESIDE, CLASSES, COLOURED_ROW, COUPLES, GRAPH, GRAY, MIXED, NESTED, NEAR, NO_THREE, NO_TRIANGLE, NO_TUPLES,
    ORDER, PENTAGON, PLAIN, RINGED, ROW, SPLIT, TURNED, Table,
    all_shapes, mixed_bars, shaped, slow_figures, slow_least_form, slow_stands, slow_wishes, with_barred,
)


def unlike_standing(rule, size):
    """One of each unlike world of so many points that may stand."""
    found = [()]
    for ahead in range(size):
        longer = [world + (point,) for world in found for point in slow_wishes(rule, world)]
        found = sorted(set(slow_least_form(rule, world) for world in longer))
    return found


def slow_ways(rule, table, one, other):
    """The ways of the one to the other by which neither is in a barred three with a point of the base."""
    ahead = dict(enumerate(one[1]))
    base = Table(rule, table)
    base.add(one[0], ahead)
    there = len(table)
    ways = range(len(rule[1]))
    return [way for way in ways if not base.bars(dict(enumerate(other[1])), other[0], there, rule[1][way][1])]


def slow_unfilled(rule, size, same_fills):
    """Whether two wishes over a world of at most so many points have no filling, by the words."""
    for points in range(size + 1):
        for base in unlike_standing(rule, points):
            for one, other in itertools.combinations_with_replacement(slow_wishes(rule, base), 2):
                if not slow_ways(rule, base, one, other) and not (same_fills and one == other):
                    return True
    return False


class Always(unittest.TestCase):
    def looked_at(self, rule):
        """What is told is looked at, by the words; told is which of both are None."""
        most = len(rule[1])
        for told, points, same in ((unlaid(rule), most + 1, True), (put_on(rule), most, False)):
            if told is not None:
                base, one, other = told
                self.assertLessEqual(len(base), points)
                self.assertTrue(slow_stands(rule, base + (one,)) and slow_stands(rule, base + (other,)))
                self.assertEqual(slow_ways(rule, base, one, other), [])
                self.assertFalse(same and one == other)
        if unlaid(rule) is not None:
            self.assertIsNotNone(put_on(rule))
        return (unlaid(rule) is None, put_on(rule) is None)

    def test_without_barred_figures(self):
        for rule in PLAIN + tuple(all_shapes()):
            self.assertIsNone(unlaid(rule))
            self.assertIsNone(put_on(rule))

    def test_rules_that_always_lay_and_lay_apart(self):
        for rule in (ROW, CLASSES, NO_TRIANGLE, BESIDE, NESTED, COLOURED_ROW, with_barred(GRAPH, [NEAR[0]]),
                     with_barred(GRAPH, [NEAR[1]]), with_barred(GRAPH, [NEAR[3], NEAR[1]])):
            self.assertEqual(self.looked_at(rule), (True, True))

    def test_rules_that_always_lay_but_not_apart(self):
        for rule in (COUPLES, NO_THREE, with_barred(GRAPH, [NEAR[1], NEAR[0]]), RINGED,
                     with_barred(GRAPH, [NEAR[3], NEAR[2], NEAR[0]]), with_barred(GRAPH, [NEAR[3], NEAR[1], NEAR[0]])):
            self.assertEqual(self.looked_at(rule), (True, False))

    def test_rules_that_dont(self):
        # all near or all far; neither three near nor three far; all far; no three at all
        for rule in (SPLIT, PENTAGON, with_barred(GRAPH, [NEAR[3], NEAR[2], NEAR[1]]),
                     with_barred(ORDER, slow_figures(ORDER))):
            self.assertEqual(self.looked_at(rule), (False, False))

    def test_every_figure_barred(self):
        for rule in all_shapes():
            every = with_barred(rule, slow_figures(rule))
            # only where a point can be in one way alone to another are two of them the same
            lays = len(rule[0]) * len(rule[1]) == 1
            self.assertEqual(self.looked_at(every), (lays, False))

    def test_told_ones(self):
        self.assertEqual(unlaid(SPLIT)[0], ((0, ()),))
        self.assertEqual(sorted(unlaid(SPLIT)[1:]), [(0, (0,)), (0, (1,))])
        # over fewer points two wishes have a filling, so the base has just as many as are told
        self.assertEqual(len(unlaid(PENTAGON)[0]), 3)
        self.assertFalse(slow_unfilled(PENTAGON, 2, True))
        self.assertEqual(len(put_on(PENTAGON)[0]), 2)
        self.assertFalse(slow_unfilled(PENTAGON, 1, False))
        self.assertEqual(put_on(NO_THREE), (((0, ()),), (0, (0,)), (0, (0,))))
        self.assertEqual(put_on(COUPLES), (((0, ()),), (0, (0,)), (0, (0,))))

    def test_all_rules_of_few_figures_by_the_words(self):
        seen = {}
        for shape in all_shapes():
            figures = slow_figures(shape)
            if len(figures) <= 4:
                for size in range(len(figures) + 1):
                    for barred in itertools.combinations(figures, size):
                        seen[self.by_the_words(with_barred(shape, barred))] = True
        self.assertEqual(sorted(seen), [(False, False), (True, False), (True, True)])

    def test_some_rules_of_more_figures_by_the_words(self):
        for shape in all_shapes():
            if len(shape[0]) * len(shape[1]) in (3, 4):
                for seed in range(12):
                    self.by_the_words(mixed_bars(shape, seed, (10, 30, 60)[seed % 3]))

    def by_the_words(self, rule):
        with self.subTest(rule=rule):
            told = self.looked_at(rule)
            most = len(rule[1])
            # a rule of three ways has many worlds of four points: there three must do, the rest is looked at alone
            points = most + 1 if most < 3 else 3
            if told[0] or most < 3:
                self.assertEqual(told[0], not slow_unfilled(rule, points, True))
            if told[1] or most < 3:
                self.assertEqual(told[1], not slow_unfilled(rule, min(points, most), False))
        return told

    def test_rules_of_six_come_soon(self):
        shapes = [shape for shape in all_shapes() if len(shape[0]) * len(shape[1]) == 6]
        self.assertEqual(len(shapes), 5)
        rules = [mixed_bars(shape, seed, share) for shape in shapes for seed in (1, 2) for share in (3, 10, 25, 50, 80)]
        answers = {}
        for rule in rules + [BESIDE, NESTED, COLOURED_ROW]:
            before = time.process_time()
            answers[self.looked_at(rule)] = True
            self.assertLess(time.process_time() - before, 10)
        self.assertIn((True, True), answers)
        self.assertIn((False, False), answers)

    def test_the_same_each_time(self):
        for rule in BARRED:
            self.assertEqual(unlaid(rule), unlaid(rule))
            self.assertEqual(put_on(rule), put_on(rule))


class LookedAt(unittest.TestCase):
    def both(self, rule, thing, unlaid_so, put_on_so):
        with self.subTest(thing=thing):
            self.assertIs(is_unlaid(rule, thing), unlaid_so)
            self.assertIs(is_put_on(rule, thing), put_on_so)

    def test_what_is_told(self):
        for rule in BARRED + tuple(mixed_bars(shape, seed, 30) for shape in all_shapes() for seed in range(4)):
            told = unlaid(rule)
            if told is not None:
                self.both(rule, told, True, True)
                self.both(rule, (told[0], told[2], told[1]), True, True)
            told = put_on(rule)
            if told is not None:
                same = told[1] == told[2]
                self.assertIs(is_put_on(rule, told), True)
                self.assertIs(is_put_on(rule, (told[0], told[2], told[1])), True)
                self.assertIs(is_unlaid(rule, told), not same)

    def test_filled_by_same_alone(self):
        self.both(NO_THREE, (((0, ()),), (0, (0,)), (0, (0,))), False, True)
        self.both(COUPLES, (((0, ()),), (0, (0,)), (0, (0,))), False, True)

    def test_larger_bases_than_told(self):
        # points of another mark that bar nothing
        split = with_barred(shaped(2, (0, 1)), SPLIT[2])
        base = ((0, ()), (1, (0,)), (1, (1, 0)), (1, (0, 1, 1)), (1, (1, 1, 1, 1)))
        self.both(split, (base, (0, (0, 0, 0, 0, 0)), (0, (1, 0, 0, 0, 0))), True, True)
        self.both(split, (base, (0, (0, 0, 0, 0, 0)), (0, (0, 1, 0, 0, 0))), False, False)
        couples = ((0, ()), (0, (0,)), (0, (1, 1)), (0, (1, 1, 0)), (0, (1, 1, 1, 1)))
        near_last = (0, (1, 1, 1, 1, 0))
        self.both(COUPLES, (couples, near_last, near_last), False, True)
        self.both(COUPLES, (couples, near_last, (0, (1, 1, 1, 1, 1))), False, False)

    def test_a_filling_that_is_there(self):
        self.both(ROW, ((), (0, ()), (0, ())), False, False)
        self.both(ROW, (((0, ()),), (0, (0,)), (0, (1,))), False, False)
        self.both(SPLIT, ((), (0, ()), (0, ())), False, False)
        self.both(SPLIT, (((0, ()),), (0, (0,)), (0, (0,))), False, False)

    def test_the_ways_are_those_of_the_one_to_the_other(self):
        self.both(RINGED, (((0, ()),), (0, (0,)), (0, (1,))), False, False)
        self.both(RINGED, (((0, ()),), (0, (0,)), (0, (0,))), False, True)

    def test_a_base_that_may_not_stand(self):
        ring = ((0, ()), (0, (0,)), (0, (1, 0)))
        self.both(ROW, (ring, (0, (0, 0, 0)), (0, (1, 1, 1))), False, False)
        every = with_barred(MIXED, slow_figures(MIXED))
        self.both(every, (((0, ()), (0, (0,)), (0, (0, 0))), (0, (0, 0, 0)), (1, (0, 0, 0))), False, False)

    def test_a_wish_that_may_not_stand(self):
        pair = ((0, ()), (0, (0,)))
        every = with_barred(MIXED, slow_figures(MIXED))
        self.both(every, (pair, (0, (0, 0)), (1, (0, 0))), False, False)
        self.both(every, (pair[:1], (0, (0,)), (1, (0,))), True, True)
        # near to one point of two that are near, and far from the other one
        self.both(SPLIT, (pair, (0, (0, 1)), (0, (0, 0))), False, False)
        self.both(SPLIT, (pair, (0, (0, 0)), (0, (0, 1))), False, False)
        self.both(SPLIT, (pair, (0, (0, 1)), (0, (1, 0))), False, False)

    def test_parts_more_or_fewer(self):
        base, one, other = unlaid(SPLIT)
        for thing in ((), (base,), (base, one), (base, one, other, one), (base, one, other, None), base, one):
            self.both(SPLIT, thing, False, False)
        wrong = [(0,), (0, (0,), 0), (0, (0, 0)), (0, ()), (), ((0,), 0), (0, 0)]
        for wish in wrong:
            self.both(SPLIT, (base, wish, other), False, False)
            self.both(SPLIT, (base, one, wish), False, False)
        for world in ((0, ()), ((0, (0,)),), ((0,),), ((0, (), ()),), (), (((0, ()),),)):
            self.both(SPLIT, (world, one, other), False, False)

    def test_other_kinds(self):
        base, one, other = unlaid(SPLIT)
        for thing in NO_TUPLES:
            self.both(SPLIT, thing, False, False)
            self.both(SPLIT, (thing, one, other), False, False)
            self.both(SPLIT, (base, thing, other), False, False)
            self.both(SPLIT, (base, one, thing), False, False)
            self.both(SPLIT, (base, (0, thing), other), False, False)
            self.both(SPLIT, ((thing,), one, other), False, False)
        for thing in ([base, one, other], (list(base), one, other), (base, list(one), other), (base, one, list(other)),
                      (base, (0, [0]), other), (([0, ()],), one, other), (((0, []),), one, other)):
            self.both(SPLIT, thing, False, False)

    def test_truths_and_texts_for_numbers(self):
        base, one, other = unlaid(SPLIT)
        self.both(SPLIT, (base, (0, (0,)), (0, (1,))), True, True)
        for wrong in (False, True, None, "0", -1, 1, 2, "dot"):
            self.both(SPLIT, (base, (wrong, (0,)), (0, (1,))), False, False)
            self.both(SPLIT, (base, (0, (0,)), (wrong, (1,))), False, False)
            self.both(SPLIT, (((wrong, ()),), (0, (0,)), (0, (1,))), False, False)
        for wrong in (False, True, None, "0", -1, 2, "near"):
            self.both(SPLIT, (base, (0, (wrong,)), (0, (1,))), False, False)
            self.both(SPLIT, (base, (0, (0,)), (0, (wrong,))), False, False)

    def test_of_rules_that_always_lay_nothing_is(self):
        for rule in (GRAY, GRAPH, MIXED, TURNED, BESIDE):
            for base in unlike_standing(rule, 2):
                points = slow_wishes(rule, base)
                for one in points:
                    for other in points:
                        self.assertIs(is_unlaid(rule, (base, one, other)), False)
                        self.assertIs(is_put_on(rule, (base, one, other)), False)


if __name__ == "__main__":
    unittest.main()
