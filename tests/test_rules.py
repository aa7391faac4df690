import copy
import unittest

from layworld.errors import NoRule
from layworld.rules import back, look_rule
from tests.samples import (
    COLOURS, GRAPH, GRAY, MIXED, NO_TUPLES, ORDER, PLAIN, TURNED,
    all_shapes, shaped, slow_least_form, with_barred, worlds_of,
)

WORDS = ("marks", "ways", "bar", "some", "each", "not", "and", "or", "is")
NO_NUMBERS = (True, False, None, "", "0", (), (0,), [], [0])
NO_TEXTS = (None, True, False, 0, 1, (), ("red",), [], ["red"])
NEAR = ((0, ()), (0, (0,)), (0, (0, 0)))


def all_figures(rule):
    return sorted({slow_least_form(rule, world) for world in worlds_of(rule, 3)})


class Looked(unittest.TestCase):
    def refused(self, thing, word):
        held = copy.deepcopy(thing)
        with self.subTest(thing=thing, word=word):
            with self.assertRaises(NoRule) as caught:
                look_rule(thing)
            self.assertEqual(caught.exception.word, word)
            self.assertEqual(thing, held)

    def let_by(self, rule):
        with self.subTest(rule=rule):
            self.assertIs(look_rule(rule), True)
            self.assertIs(look_rule(rule), True)


class RightRules(Looked):
    def test_all_shapes(self):
        shapes = all_shapes()
        self.assertEqual(len(shapes), 6 + 6 + 3)
        for rule in shapes + list(PLAIN):
            self.let_by(rule)

    def test_barred(self):
        for rule in all_shapes():
            every = all_figures(rule)
            for barred in (every, every[:1], every[-1:], every[::2], every[1::3]):
                self.let_by(with_barred(rule, barred))

    def test_every_figure_by_itself(self):
        for rule in (GRAPH, ORDER, MIXED, TURNED, COLOURS):
            for figure in all_figures(rule):
                self.let_by(with_barred(rule, [figure]))

    def test_names(self):
        for name in ("a", "z", "abcdefgh", "zzzzzzzz", "mark", "way", "bars", "iss", "same", "barred", "no"):
            self.let_by(((name,), (("w", 0),), ()))
            self.let_by((("m",), ((name, 0),), ()))


class Form(Looked):
    def test_no_tuple(self):
        for thing in NO_TUPLES:
            self.refused(thing, "form")
        self.refused(list(GRAY), "form")

    def test_parts_more_or_fewer(self):
        for thing in ((), GRAY[:1], GRAY[:2], GRAY[1:], GRAY + ((),), GRAY + GRAY, (GRAY,)):
            self.refused(thing, "form")

    def test_no_tuple_in_a_place(self):
        for place in range(3):
            for thing in NO_TUPLES:
                self.refused(GRAY[:place] + (thing,) + GRAY[place + 1:], "form")
            self.refused(GRAY[:place] + (list(GRAY[place]),) + GRAY[place + 1:], "form")

    def test_names_that_are_no_texts(self):
        for thing in NO_TEXTS:
            self.refused(((thing,), (("near", 0),), ()), "form")
            self.refused((("red", thing), (("near", 0),), ()), "form")
            self.refused((("red",), ((thing, 0),), ()), "form")

    def test_ways_that_are_no_pairs(self):
        wrong = NO_TUPLES + ((), ("near",), ("near", 0, 0), ["near", 0], (0, "near"), (("near", 0),))
        for thing in wrong:
            self.refused((("red",), (thing,), ()), "form")
            self.refused((("red",), (("far", 0), thing), ()), "form")

    def test_backs_that_are_no_numbers(self):
        for thing in NO_NUMBERS:
            self.refused((("red",), (("near", thing),), ()), "form")
            self.refused((("red",), (("far", 0), ("near", thing)), ()), "form")

    def barred_refused(self, three):
        self.refused((("red",), (("near", 0),), (three,)), "form")
        self.refused((("red",), (("near", 0),), (NEAR, three)), "form")

    def test_threes_of_other_counts(self):
        four = NEAR + ((0, (0, 0, 0)),)
        for three in ((), NEAR[:1], NEAR[:2], four, (NEAR,), list(NEAR)) + NO_TUPLES:
            self.barred_refused(three)

    def test_points_of_another_form(self):
        for place in range(3):
            ways = (0,) * place
            wrong = [thing for thing in NO_TUPLES] + [
                (), (0,), (0, ways, 0), [0, ways], (0, list(ways)), (0, ways + (0,)), (ways, 0), (0, 0), (0, None),
            ]
            wrong += [(thing, ways) for thing in NO_NUMBERS]
            wrong += [(0, ways[:-1] + (thing,)) for thing in NO_NUMBERS if place > 0]
            wrong += [(0, (thing,) + ways[1:]) for thing in NO_NUMBERS if place > 0]
            wrong += [(0, ways[1:])] * (place > 0)
            for point in wrong:
                self.barred_refused(NEAR[:place] + (point,) + NEAR[place + 1:])


class Bounds(Looked):
    def test_counts(self):
        for marks in range(6):
            for ways in range(6):
                names = tuple("mabcdef"[: number + 1] for number in range(marks))
                pairs = tuple(("wabcdef"[: number + 1], number) for number in range(ways))
                rule = (names, pairs, ())
                if 1 <= marks <= 3 and 1 <= ways <= 3 and marks * ways <= 6:
                    self.let_by(rule)
                else:
                    self.refused(rule, "bounds")


class Names(Looked):
    def test_texts_that_are_no_names(self):
        wrong = ("", "abcdefghi", "A", "aB", "a1", "1", "a b", " a", "a ", "a_b", "-", "a\n", "\n", "a\t", "/", "a/b")
        # small letters, but none of a to z
        wrong += ("\u00e4", "\u00df", "\u03b1", "a\u0301", "\uff41", "\u00aa", "\u2170")
        for name in wrong + WORDS:
            self.refused(((name,), (("near", 0),), ()), "names")
            self.refused((("red", name), (("near", 0),), ()), "names")
            self.refused((("red",), ((name, 0),), ()), "names")
            self.refused((("red",), (("far", 0), (name, 1)), ()), "names")

    def test_twice(self):
        self.refused((("red", "red"), (("near", 0),), ()), "names")
        self.refused((("red", "blue", "red"), (("near", 0),), ()), "names")
        self.refused((("red",), (("near", 0), ("near", 1)), ()), "names")
        self.refused((("red",), (("near", 1), ("far", 0), ("near", 2)), ()), "names")
        self.refused((("red",), (("red", 0),), ()), "names")
        self.refused((("red", "blue"), (("near", 0), ("blue", 1)), ()), "names")


class Backs(Looked):
    def test_all_backs(self):
        right = {(0,), (0, 1), (1, 0), (0, 1, 2), (1, 0, 2), (0, 2, 1)}
        numbers = range(-4, 5)
        rows = [(one,) for one in numbers] + [(one, two) for one in numbers for two in numbers]
        rows += [(one, two, three) for one in numbers for two in numbers for three in numbers]
        for backs in rows:
            if backs in right:
                self.let_by(shaped(2, backs))
            else:
                self.refused(shaped(2, backs), "backs")

    def test_numbers_far_off(self):
        for number in (10 ** 30, -10 ** 30):
            self.refused(shaped(1, (0, number)), "backs")


class Barred(Looked):
    def test_unsorted_or_twice(self):
        for rule in (GRAPH, ORDER, MIXED, TURNED, COLOURS):
            every = all_figures(rule)
            last = len(every) - 1
            self.refused(with_barred(rule, every[::-1]), "barred")
            self.refused(with_barred(rule, [every[0], every[0]]), "barred")
            self.refused(with_barred(rule, every + every[last:]), "barred")
            self.refused(with_barred(rule, every[1:] + every[:1]), "barred")

    def test_not_in_their_least_form(self):
        for rule in (GRAPH, ORDER, MIXED, TURNED, COLOURS):
            every = all_figures(rule)
            for world in worlds_of(rule, 3):
                if world in every:
                    self.let_by(with_barred(rule, [world]))
                else:
                    self.refused(with_barred(rule, [world]), "barred")

    def test_marks_and_ways_that_there_are_not(self):
        for number in (-1, -2, 10 ** 30, -10 ** 30):
            self.refused_with(number, number)
        self.refused_with(2, 3)

    def refused_with(self, mark, there):
        base = ((0, ()), (0, (0,)), (0, (0, 0)))
        wrong = [(mark, ()), (mark, (0,)), (mark, (0, 0))]
        for place in range(3):
            self.refused(with_barred(MIXED, [base[:place] + (wrong[place],) + base[place + 1:]]), "barred")
        for three in (
            ((0, ()), (0, (there,)), (0, (0, 0))),
            ((0, ()), (0, (0,)), (0, (there, 0))),
            ((0, ()), (0, (0,)), (0, (0, there))),
        ):
            self.refused(with_barred(MIXED, [three]), "barred")

    def test_a_wrong_figure_behind_right_ones(self):
        every = all_figures(GRAPH)
        self.refused(with_barred(GRAPH, every + [((0, ()), (0, (1,)), (0, (1, 2)))]), "barred")
        self.refused(with_barred(GRAPH, every + [((1, ()), (0, (0,)), (0, (0, 0)))]), "barred")


class FirstWord(Looked):
    def test_form_ahead_of_all(self):
        bad_three = (NEAR[:2],)
        self.refused(((), (("w", 0),), bad_three), "form")
        self.refused((("a",) * 4, (("w", None),), ()), "form")
        self.refused((("A", "A"), (("w", 0),), bad_three), "form")
        self.refused((("a",), (("w", 5),), bad_three), "form")
        self.refused((("a",), (("w", 0),), (NEAR, NEAR) + bad_three), "form")
        self.refused((("",), (("is", 9),) * 4, (NEAR, NEAR, None)), "form")

    def test_bounds_ahead_of_the_rest(self):
        self.refused((("A", "", "is", "A"), (("w", 0),), ()), "bounds")
        self.refused(((), (("w", 5),), ()), "bounds")
        self.refused((("a",), (), (NEAR,)), "bounds")
        self.refused((("a", "a", "b"), (("w", 9), ("w", 9), ("is", 9)), (NEAR, NEAR)), "bounds")

    def test_names_ahead_of_the_rest(self):
        self.refused((("a", "a"), (("w", 5),), ()), "names")
        self.refused((("a",), (("is", 0),), (NEAR, NEAR)), "names")
        self.refused((("a",), (("W", -1),), (NEAR, NEAR)), "names")

    def test_backs_ahead_of_barred(self):
        self.refused((("a",), (("w", 1),), (NEAR, NEAR)), "backs")
        self.refused((("a",), (("w", 1), ("v", 1)), (((0, ()), (0, (7,)), (0, (0, 0))),)), "backs")


class Back(unittest.TestCase):
    def test_backs(self):
        for rule in all_shapes():
            for number, pair in enumerate(rule[1]):
                self.assertEqual(back(rule, number), pair[1])
                self.assertEqual(back(rule, back(rule, number)), number)

    def test_told_ones(self):
        self.assertEqual([back(MIXED, number) for number in range(3)], [0, 2, 1])
        self.assertEqual([back(TURNED, number) for number in range(3)], [1, 0, 2])
        self.assertEqual([back(GRAPH, number) for number in range(2)], [0, 1])
        self.assertEqual(back(GRAY, 0), 0)
        self.assertEqual([back(ORDER, number) for number in range(2)], [1, 0])


if __name__ == "__main__":
    unittest.main()
