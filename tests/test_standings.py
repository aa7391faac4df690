import itertools
import unittest

from layworld.standings import moved, moves, standings
from layworld.threes import wishes
from tests.samples import (
    BARRED, BESIDE, COLOURED_ROW, COLOURS, GRAPH, GRAY, MIXED, NESTED, NO_THREE, ORDER, PLAIN, RINGED, ROW, SPLIT,
    mixed_bars, slow_standing, slow_standings, slow_wishes, some_standing, with_barred, slow_figures,
)

RULES = PLAIN + BARRED + (BESIDE, NESTED, COLOURED_ROW, RINGED)


class Standings(unittest.TestCase):
    def test_no_names(self):
        for rule in RULES:
            self.assertEqual(standings(rule, []), [((), ())])

    def test_one_name(self):
        for rule in RULES:
            told = [(((mark, ()),), (("x", 0),)) for mark in range(len(rule[0]))]
            self.assertEqual(standings(rule, ["x"]), told)

    def test_two_names(self):
        dot = (0, ())
        together = ((dot,), (("x", 0), ("y", 0)))
        apart = [((dot, (0, (number,))), (("x", 0), ("y", 1))) for number in range(2)]
        self.assertEqual(standings(ROW, ["x", "y"]), [together] + apart)
        self.assertEqual(standings(GRAY, ["ab", "b"]), [((dot,), (("ab", 0), ("b", 0))), ((dot, (0, (0,))), (("ab", 0), ("b", 1)))])

    def test_three_names(self):
        # all on one point; two on one of two points; all apart, but none where no three may stand
        told = standings(NO_THREE, ["x", "y", "z"])
        places = [tuple(point for name, point in held[1]) for held in told]
        self.assertEqual(places, [(0, 0, 0), (0, 0, 1), (0, 1, 0), (0, 1, 1)])
        self.assertEqual([len(held[0]) for held in told], [1, 2, 2, 2])
        # 13 orders of three in a row, some of them perhaps in one place
        self.assertEqual(len(standings(ROW, ["x", "y", "z"])), 13)
        self.assertEqual(len(standings(ORDER, ["x", "y", "z"])), 1 + 3 * 2 + 8)
        self.assertEqual(len(standings(MIXED, ["x", "y", "z"])), 2 + 3 * 12 + 8 * 27)

    def test_against_the_words(self):
        for rule in RULES:
            for names in ([], ["b"], ["a", "ab"], ["a", "b", "c"], ["x", "y", "zz"]):
                told = standings(rule, names)
                self.assertIs(type(told), list)
                self.assertEqual(told, slow_standings(rule, names))
                self.assertEqual(told, sorted(set(told)))
                # names may come in a tuple as well
                self.assertEqual(standings(rule, tuple(names)), told)

    def test_against_the_words_by_mixed_rules(self):
        for seed in range(12):
            rule = mixed_bars((MIXED, COLOURS, GRAPH)[seed % 3], seed, 20 + 6 * seed)
            self.assertEqual(standings(rule, ["x", "y", "z"]), slow_standings(rule, ["x", "y", "z"]))

    def test_no_three_may_stand(self):
        rule = with_barred(COLOURS, slow_figures(COLOURS))
        self.assertEqual(len(standings(rule, ["x", "y", "z"])), 3 + 3 * 9 * 2)

    def test_the_askers_own(self):
        names = ["x", "y"]
        told = standings(ROW, names)
        kept = list(told)
        told.clear()
        self.assertEqual(standings(ROW, names), kept)
        self.assertEqual(names, ["x", "y"])


class Moves(unittest.TestCase):
    def test_no_names(self):
        for rule in RULES:
            self.assertEqual(moves(rule, ((), ())), [(mark, ()) for mark in range(len(rule[0]))])

    def test_points_rising_then_wishes_sorted(self):
        pair = ((0, ()), (0, (0,)))
        self.assertEqual(moves(ROW, (pair, (("x", 0), ("y", 1)))), [0, 1, (0, (0, 0)), (0, (0, 1)), (0, (1, 1))])
        self.assertEqual(moves(NO_THREE, (pair, (("x", 0), ("y", 1)))), [0, 1])
        self.assertEqual(moves(GRAPH, (pair[:1], (("x", 0), ("y", 0)))), [0, (0, (0,)), (0, (1,))])

    def test_against_the_words(self):
        for rule in RULES:
            for names in (["x"], ["x", "y"], ["x", "y", "z"]):
                for standing in standings(rule, names)[::5]:
                    told = moves(rule, standing)
                    self.assertIs(type(told), list)
                    self.assertEqual(told, list(range(len(standing[0]))) + slow_wishes(rule, standing[0]))

    def test_the_askers_own(self):
        standing = (((0, ()),), (("x", 0),))
        moves(ROW, standing).clear()
        self.assertEqual(moves(ROW, standing), [0, (0, (0,)), (0, (1,))])


class Moved(unittest.TestCase):
    def test_by_a_wish_and_a_new_name(self):
        self.assertEqual(moved(MIXED, ((), ()), "x", (1, ()), ["x"]), (((1, ()),), (("x", 0),)))
        one = (((0, ()),), (("x", 0),))
        self.assertEqual(moved(MIXED, one, "y", (1, (2,)), ["x", "y"]), (((0, ()), (1, (2,))), (("x", 0), ("y", 1))))
        # the new name comes up first, so its point is numbered first, and stands there in the way back
        self.assertEqual(moved(MIXED, one, "a", (1, (2,)), ["a", "x"]), (((1, ()), (0, (1,))), (("a", 0), ("x", 1))))

    def test_by_a_point(self):
        two = (((0, ()), (1, (2,))), (("x", 0), ("y", 1)))
        self.assertEqual(moved(MIXED, two, "z", 0, ["x", "y", "z"]), (two[0], (("x", 0), ("y", 1), ("z", 0))))
        self.assertEqual(moved(MIXED, two, "z", 1, ["x", "y", "z"]), (two[0], (("x", 0), ("y", 1), ("z", 1))))
        self.assertEqual(moved(MIXED, two, "a", 1, ["a", "x", "y"]),
                         (((1, ()), (0, (1,))), (("a", 0), ("x", 1), ("y", 0))))

    def test_a_name_put_anew(self):
        two = (((0, ()), (1, (2,))), (("x", 0), ("y", 1)))
        self.assertEqual(moved(MIXED, two, "x", 1, ["x", "y"]), (((1, ()),), (("x", 0), ("y", 0))))
        self.assertEqual(moved(MIXED, two, "y", 1, ["x", "y"]), two)
        # where it stood is left, and told no more
        self.assertEqual(moved(MIXED, two, "x", (0, (0, 2)), ["x", "y"]), (((0, ()), (1, (1,))), (("x", 0), ("y", 1))))
        # another name still stands there
        three = (two[0], (("x", 0), ("y", 1), ("z", 0)))
        self.assertEqual(moved(MIXED, three, "x", (0, (0, 2)), ["x", "y", "z"]),
                         (((0, ()), (1, (1,)), (0, (0, 1))), (("x", 0), ("y", 1), ("z", 2))))

    def test_fewer_names(self):
        two = (((0, ()), (1, (2,))), (("x", 0), ("y", 1)))
        self.assertEqual(moved(MIXED, two, "z", (1, (0, 0)), ["y", "z"]), (((1, ()), (1, (0,))), (("y", 0), ("z", 1))))
        self.assertEqual(moved(MIXED, two, "z", (1, (0, 0)), ["x", "y"]), two)
        self.assertEqual(moved(MIXED, two, "z", (1, (0, 0)), ["y"]), (((1, ()),), (("y", 0),)))
        self.assertEqual(moved(MIXED, two, "z", 0, []), ((), ()))
        self.assertEqual(moved(MIXED, two, "y", 0, ["x"]), (((0, ()),), (("x", 0),)))

    def test_four_names(self):
        for seed in range(20):
            world = some_standing(MIXED, 3, seed)
            standing = (world, tuple(zip(("b", "c", "d"), range(3))))
            for name in ("a", "e", "bb"):
                for move in [0, 1, 2] + wishes(MIXED, world)[::7]:
                    names = sorted(["b", "c", "d", name])
                    places = {"b": 0, "c": 1, "d": 2, name: move if isinstance(move, int) else 3}
                    longer = world if isinstance(move, int) else world + (move,)
                    self.assertEqual(moved(MIXED, standing, name, move, names), slow_standing(MIXED, longer, places, names))

    def test_against_the_words(self):
        for rule in (MIXED, COLOURED_ROW, NESTED, GRAPH, SPLIT):
            for standing in standings(rule, ["x", "y"]) + standings(rule, ["x", "y", "z"])[::9]:
                self.moved_against_the_words(rule, standing)

    def moved_against_the_words(self, rule, standing):
        world = standing[0]
        stands = [name for name, point in standing[1]]
        for name, move in itertools.product(("x", "y", "a", "z"), moves(rule, standing)):
            places = dict(standing[1])
            places[name] = move if isinstance(move, int) else len(world)
            longer = world if isinstance(move, int) else world + (move,)
            every = sorted(set(stands + [name]))
            for names in (every, stands, every[1:], every[:-1]):
                told = moved(rule, standing, name, move, names)
                self.assertEqual(told, slow_standing(rule, longer, places, names))
                self.assertIs(type(told[0]), tuple)
                self.assertIs(type(told[1]), tuple)

    def test_what_is_told_is_one_of_the_standings(self):
        for rule in (NESTED, COLOURED_ROW, BESIDE):
            three = standings(rule, ["x", "y", "z"])
            for standing in standings(rule, ["x", "z"]):
                found = [moved(rule, standing, "y", move, ["x", "y", "z"]) for move in moves(rule, standing)]
                self.assertEqual(len(set(found)), len(found))
                self.assertTrue(set(found) <= set(three))
            # and all come by a move from one of fewer names
            all_found = {moved(rule, standing, "y", move, ["x", "y", "z"])
                         for standing in standings(rule, ["x", "z"]) for move in moves(rule, standing)}
            self.assertEqual(sorted(all_found), three)

    def test_nothing_handed_in_is_changed(self):
        names = ["x", "y"]
        two = (((0, ()), (1, (2,))), (("x", 0), ("y", 1)))
        self.assertEqual(moved(MIXED, two, "x", (0, (0, 2)), names), moved(MIXED, two, "x", (0, (0, 2)), names))
        self.assertEqual(names, ["x", "y"])


if __name__ == "__main__":
    unittest.main()
