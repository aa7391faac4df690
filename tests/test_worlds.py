import copy
import unittest

from layworld.errors import NoWorld
from layworld.rules import back
from layworld.worlds import look_world, way
from tests.samples import COLOURS, GRAPH, GRAY, MIXED, NO_TUPLES, ORDER, PLAIN, TURNED, some_world, worlds_of

NO_NUMBERS = (True, False, None, "", "0", (), (0,), [], [0])


class Looked(unittest.TestCase):
    def refused(self, rule, thing, point):
        held = copy.deepcopy(thing)
        with self.subTest(rule=rule, thing=thing, point=point):
            with self.assertRaises(NoWorld) as caught:
                look_world(rule, thing)
            self.assertEqual(caught.exception.point, point)
            self.assertIs(type(caught.exception.point), int)
            self.assertEqual(thing, held)

    def let_by(self, rule, world):
        self.assertIs(look_world(rule, world), True)
        self.assertIs(look_world(rule, world), True)

    def test_right_worlds(self):
        for rule in PLAIN:
            for size in range(4):
                for world in worlds_of(rule, size)[:300]:
                    self.let_by(rule, world)

    def test_without_points(self):
        for rule in PLAIN:
            self.let_by(rule, ())

    def test_barred_threes_are_worlds_too(self):
        near = ((0, ()), (0, (0,)), (0, (0, 0)))
        self.let_by((GRAY[0], GRAY[1], (near,)), near)

    def test_how_many_points_is_not_looked_at(self):
        for rule in PLAIN:
            for size in (30, 31, 45, 100):
                world = some_world(rule, size, size)
                self.let_by(rule, world)
                self.refused(rule, world + (None,), size)

    def test_no_tuple(self):
        right = some_world(MIXED, 4, 1)
        for thing in NO_TUPLES + (list(right), [right], "red"):
            self.refused(MIXED, thing, 0)

    def wrong_points(self, rule, place):
        """Things that are no point of the rule with so many points ahead."""
        ways = (0,) * place
        wrong = list(NO_TUPLES) + [(), (0,), (0, ways, 0), [0, ways], (ways, 0), (0, 0), (0, None), (0, "0" * place)]
        wrong += [(0, list(ways)), (0, ways + (0,)), ((0, ways),)]
        wrong += [(thing, ways) for thing in NO_NUMBERS]
        wrong += [(mark, ways) for mark in (-1, -10 ** 30, len(rule[0]), 10 ** 30)]
        for spot in range(place):
            for thing in NO_NUMBERS + (-1, -10 ** 30, len(rule[1]), 10 ** 30):
                wrong.append((0, ways[:spot] + (thing,) + ways[spot + 1:]))
        if place > 0:
            wrong.append((0, ways[1:]))
            wrong.append((0, ()))
        return wrong

    def test_each_wrong_point(self):
        for rule in (GRAY, ORDER, MIXED, COLOURS):
            world = some_world(rule, 5, 3)
            for place in range(5):
                for point in self.wrong_points(rule, place):
                    self.refused(rule, world[:place] + (point,) + world[place + 1:], place)
                    self.refused(rule, world[:place] + (point,), place)

    def test_the_first_wrong_point(self):
        right = some_world(MIXED, 5, 4)
        self.refused(MIXED, right[:2] + (None, None) + right[4:], 2)
        self.refused(MIXED, right[:1] + ((7, (0,)), (0, (0, 0, 0)), right[3], None), 1)
        self.refused(MIXED, right[1:], 0)
        self.refused(MIXED, right[:3] + right[4:], 3)
        self.refused(MIXED, (None,) * 3, 0)

    def test_by_the_rule_that_is_told(self):
        world = ((1, ()), (0, (2,)))
        self.let_by(MIXED, world)
        self.refused(GRAPH, world, 0)
        self.refused(COLOURS, world, 1)

    def test_a_rule_is_no_world(self):
        for rule in PLAIN:
            self.refused(rule, rule, 0)


class Ways(unittest.TestCase):
    def test_forth_and_back(self):
        # each way stands once between two points, so each has to come back as its own way back
        world = ((0, ()), (1, (1,)), (0, (2, 0)), (1, (1, 1, 2)))
        forth = {(1, 0): 1, (2, 0): 2, (2, 1): 0, (3, 0): 1, (3, 1): 1, (3, 2): 2}
        for rule, backs in ((MIXED, (0, 2, 1)), (TURNED, (1, 0, 2))):
            for (i, j), there in forth.items():
                self.assertEqual(way(rule, world, i, j), there)
                self.assertEqual(way(rule, world, j, i), backs[there])

    def test_all_worlds(self):
        for rule in PLAIN:
            for size in (2, 3):
                for world in worlds_of(rule, size)[:300]:
                    self.hold(rule, world)

    def hold(self, rule, world):
        for i in range(len(world)):
            for j in range(i):
                self.assertEqual(way(rule, world, i, j), world[i][1][j])
                self.assertEqual(way(rule, world, j, i), back(rule, world[i][1][j]))

    def test_many_points(self):
        for rule in PLAIN:
            world = some_world(rule, 30, 9)
            self.hold(rule, world)
            self.assertEqual(world, some_world(rule, 30, 9))


if __name__ == "__main__":
    unittest.main()
