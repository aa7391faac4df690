import time
import unittest

from layworld.errors import NoRule, NoSentence
from layworld.growth import Growth
from layworld.judge import judged
from layworld.sentencetexts import read_sentence
from tests.samples import (
    BESIDE, CLASSES, COLOURED_ROW, COLOURS, COUPLES, GRAPH, GRAY, MIXED, NESTED, NO_THREE, NO_TRIANGLE, ORDER, PENTAGON,
    RINGED, ROW, SPLIT, TURNED, SlowJudge, holds_in, mixed_bars, mixed_sentence, shaped,
)

NOBODY = ((), ())
# true sentences, and untrue ones, of the world that each rule grows
TRUE = {
    GRAY: ("some x x is x", "each x some y x near y", "each x each y (x is y or x near y)",
           "each x each y some z (not z is x and not z is y)"),
    GRAPH: ("each x some y x near y", "each x some y x far y", "each x each y (x is y or some z (z near x and z far y))",
            "some x some y some z (x near y and (y near z and z far x))", "each x each y some z (z far x and z far y)"),
    ORDER: ("each x each y (x is y or (x below y or y below x))", "each x each y (not x below y or y above x)",
            "each x each y some z (z below x and z below y)", "some x some y some z (x below y and (y below z and z below x))"),
    ROW: ("each x some y x below y", "each x some y x above y",
          "each x each y (not x below y or some z (x below z and z below y))",
          "each x each y each z (not (x below y and y below z) or x below z)", "each x each y (x is y or (x below y or x above y))"),
    CLASSES: ("each x each y each z (not (x near y and y near z) or (x is z or x near z))", "each x some y x near y",
              "each x some y x far y", "each x each y some z (z far x and z far y)"),
    COUPLES: ("each x some y x near y", "each x each y each z (not (x near y and x near z) or y is z)",
              "each x each y some z (z far x and z far y)"),
    NO_TRIANGLE: ("each x each y each z not (x near y and (y near z and z near x))",
                  "each x each y (x near y or some z (z near x and (z is y or z near y)))"),
    NO_THREE: ("some x some y x near y", "each x each y each z (x is y or (y is z or z is x))"),
    MIXED: ("some x x : red", "each x some y (y : blue and x below y)", "each x each y (x is y or some z (z near x and z above y))"),
    COLOURED_ROW: ("each x each y (not x below y or some z (z : green and (x below z and z below y)))",
                   "each x some y (y : blue and y below x)"),
}
UNTRUE = {
    GRAY: ("some x each y x is y", "some x some y not (x is y or x near y)", "each x x near x", "some x each y x near y"),
    GRAPH: ("some x each y (x is y or x near y)", "some x x near x", "each x each y x near y", "some x some y each z (z near x or z near y)"),
    ORDER: ("each x each y each z (not (x below y and y below z) or x below z)", "some x each y (x is y or x below y)",
            "some x some y (x below y and y below x)"),
    ROW: ("some x each y (x is y or x below y)", "some x some y some z (x below y and (y below z and z below x))",
          "some x some y (x below y and each z not (x below z and z below y))", "some x x below x"),
    CLASSES: ("some x each y (x is y or x near y)", "some x some y some z (x near y and (y near z and x far z))",
              "some x some y (x far y and each z (z is x or (z is y or (z near x or z near y))))"),
    COUPLES: ("some x some y some z (x near y and (x near z and y near z))", "some x each y (x is y or x far y)"),
    NO_TRIANGLE: ("some x some y some z (x near y and (y near z and z near x))", "some x each y (x is y or x far y)"),
    NO_THREE: ("some x some y some z (not x is y and (not y is z and not z is x))", "some x each y x is y"),
    MIXED: ("each x x : red", "some x (x : red and x : blue)", "some x each y (y is x or (y near x or x below y))"),
    COLOURED_ROW: ("some x each y (x : red and (x is y or x below y))", "each x (x : red or x : blue)"),
}
# rules that grow but a few points, and how many: all that holds there can be seen in the world that is at its end
SMALL = (
    (shaped(1, (0,)), 1, 50, 2), (shaped(1, (0, 1)), 7, 50, 4), (shaped(1, (1, 0)), 1, 50, 3), (shaped(1, (0, 1, 2)), 47, 50, 4),
    (shaped(1, (1, 0, 2)), 31, 50, 4), (shaped(1, (1, 0, 2)), 50, 50, 6), (shaped(1, (0, 2, 1)), 114, 50, 6),
    (shaped(2, (0,)), 1, 50, 4),
)


def truth(rule, text):
    return judged(rule, read_sentence(rule, text))[0]


class Truths(unittest.TestCase):
    def test_true_and_untrue_sentences(self):
        for told, held in ((True, TRUE), (False, UNTRUE)):
            for rule, texts in held.items():
                for text in texts:
                    with self.subTest(rule=rule, text=text):
                        self.assertIs(truth(rule, text), told)
                        self.assertIs(truth(rule, "not " + text), not told)

    def test_a_name_bound_twice(self):
        self.assertIs(truth(ROW, "some x (each y (x is y or some x x below y) and some x x is x)"), True)
        self.assertIs(truth(ROW, "each x some x each y (x is y or x below y)"), False)
        self.assertIs(truth(ROW, "some x some y (x below y and some x y below x)"), True)
        self.assertIs(truth(ROW, "some x some y (x below y and each x not y below x)"), False)

    def test_a_name_that_isnt_free_in_the_part(self):
        self.assertIs(truth(ROW, "some x some y some z x below y"), True)
        self.assertIs(truth(ROW, "each z some x each y x is x"), True)
        self.assertIs(truth(NO_THREE, "some x some y (x near y and some z x near y)"), True)
        self.assertIs(truth(NO_THREE, "some x some y (x near y and each z not x near y)"), False)

    def test_a_named_point_counts_too(self):
        self.assertIs(truth(NO_THREE, "each x each y some z (z is x and not z is y)"), False)
        self.assertIs(truth(GRAPH, "each x some y x is y"), True)
        self.assertIs(truth(GRAPH, "each x each y x is y"), False)
        self.assertIs(truth(GRAPH, "each x each y (x near y or x far y)"), False)

    def test_against_a_world_that_grows_along(self):
        rules = (GRAY, GRAPH, ORDER, ROW, CLASSES, COUPLES, NO_TRIANGLE, NO_THREE, RINGED, COLOURED_ROW, BESIDE, NESTED)
        seen = set()
        for seed in range(240):
            rule = rules[seed % len(rules)]
            sentence = mixed_sentence(rule, seed, 8 + seed % 7, 0)
            told = judged(rule, sentence)[0]
            self.assertIs(told, SlowJudge(rule, sentence).truth(len(sentence) - 1, (), {}))
            seen.add((rule, told))
        self.assertEqual(len(seen), 2 * len(rules))

    def test_in_a_world_at_its_end(self):
        seen = set()
        for shape, seed, share, size in SMALL:
            rule = mixed_bars(shape, seed, share)
            growth = Growth(rule, tuple(range(len(rule[1]))))
            while growth.step() is not None:
                pass
            self.assertEqual(len(growth.world()), size)
            for number in range(60):
                sentence = mixed_sentence(rule, number + 500, 7 + number % 6, 0)
                told = judged(rule, sentence)[0]
                self.assertIs(told, holds_in(rule, sentence, len(sentence) - 1, growth.world(), {}))
                seen.add((rule, told))
        self.assertEqual(len(seen), 2 * len(SMALL))

    def test_what_is_some_holds_of_grown_points(self):
        # of a true sentence of some alone the grown world has the points at some step
        for text in TRUE[GRAPH][3:4]:
            growth = Growth(GRAPH, (0, 1))
            sentence = read_sentence(GRAPH, text)
            while not holds_in(GRAPH, sentence, len(sentence) - 1, growth.world(), {}):
                self.assertIsNotNone(growth.step())
                self.assertLess(growth.steps(), 60)


class Refused(unittest.TestCase):
    def refused_free(self, rule, sentence):
        with self.assertRaises(NoSentence) as caught:
            judged(rule, sentence)
        self.assertEqual(caught.exception.row, len(sentence) - 1)

    def test_free_names(self):
        for rule in (ROW, GRAPH, SPLIT, PENTAGON):
            self.refused_free(rule, (("same", "x", "x"),))
            self.refused_free(rule, (("same", "x", "x"), ("some", "x", 0), ("and", 0, 1)))
            self.refused_free(rule, (("same", "x", "y"), ("some", "x", 0), ("not", 1), ("each", "z", 2)))
            self.refused_free(rule, (("same", "x", "y"), ("way", "z", "y", 0), ("and", 0, 1)))

    def test_free_names_of_rows_that_arent_the_last(self):
        sentence = (("same", "x", "x"), ("some", "x", 0), ("way", "a", "b", 0), ("not", 1))
        self.assertIs(judged(ROW, sentence)[0], False)

    def test_rules_that_dont_always_lay(self):
        for rule in (SPLIT, PENTAGON):
            with self.assertRaises(NoRule) as caught:
                judged(rule, (("same", "x", "x"), ("some", "x", 0)))
            self.assertEqual(caught.exception.word, "lays")


# standings that the tables below speak of
DOT = (0, ())
ALONE = ((DOT,), (("x", 0),))
BOTH = ((DOT,), (("x", 0), ("y", 0)))
BELOW = ((DOT, (0, (0,))), (("x", 0), ("y", 1)))
ABOVE = ((DOT, (0, (1,))), (("x", 0), ("y", 1)))


class Tables(unittest.TestCase):
    def told(self, rule, rows, truth, entries):
        self.assertEqual(judged(rule, rows), (truth, tuple(entries)))

    def test_same(self):
        self.told(ROW, (("same", "x", "x"), ("some", "x", 0)), True, [(0, ALONE, True, None), (1, NOBODY, True, DOT)])
        self.told(ROW, (("same", "x", "y"), ("each", "y", 0), ("some", "x", 1)), False, [
            (0, BELOW, False, None), (1, ALONE, False, (0, (0,))), (2, NOBODY, False, None)])

    def test_mark(self):
        red, green, blue = [(((mark, ()),), (("x", 0),)) for mark in range(3)]
        rows = (("mark", "x", 1), ("some", "x", 0))
        self.told(COLOURS, rows, True, [(0, green, True, None), (1, NOBODY, True, (1, ()))])
        rows = (("mark", "x", 1), ("each", "x", 0))
        self.told(COLOURS, rows, False, [(0, red, False, None), (1, NOBODY, False, (0, ()))])
        rows = (("mark", "x", 1), ("not", 0), ("each", "x", 1))
        self.told(COLOURS, rows, False, [(0, green, True, None), (1, green, False, None), (2, NOBODY, False, (1, ()))])

    def test_way(self):
        # y stands to x in way 1 by the first wish by which x stands below y
        rows = (("way", "x", "y", 0), ("some", "y", 0), ("each", "x", 1))
        self.told(ROW, rows, True, [(0, ABOVE, True, None), (1, ALONE, True, (0, (1,))), (2, NOBODY, True, None)])
        rows = (("way", "x", "x", 0), ("some", "x", 0))
        self.told(ROW, rows, False, [(0, ALONE, False, None), (1, NOBODY, False, None)])

    def test_some_that_is_untrue_and_each_that_is_true(self):
        rows = (("way", "x", "y", 0), ("way", "y", "x", 0), ("and", 0, 1), ("some", "y", 2), ("some", "x", 3))
        self.told(ROW, rows, False, [
            (0, BOTH, False, None), (0, BELOW, False, None), (1, ABOVE, False, None),
            (2, BOTH, False, 0), (2, BELOW, False, 0), (2, ABOVE, False, 1), (3, ALONE, False, None), (4, NOBODY, False, None)])
        rows = (("way", "x", "y", 0), ("not", 0), ("each", "y", 1), ("each", "x", 2))
        self.assertIs(judged(ROW, rows)[0], False)
        rows = (("same", "y", "x"), ("or", 0, 0), ("some", "y", 1), ("each", "x", 2))
        self.told(ROW, rows, True, [(0, BOTH, True, None), (1, BOTH, True, 0), (2, ALONE, True, 0), (3, NOBODY, True, None)])

    def test_and_and_or(self):
        true = (("same", "x", "x"), ("some", "x", 0))
        shown = [(0, ALONE, True, None), (1, NOBODY, True, DOT)]
        untrue = (("not", 1),)
        turned = [(2, NOBODY, False, None)]
        cases = [
            (("and", 1, 1), True, None, shown), (("or", 1, 1), True, 0, shown), (("and", 2, 2), False, 0, shown + turned),
            (("or", 2, 2), False, None, shown + turned), (("and", 1, 2), False, 1, shown + turned), (("and", 2, 1), False, 0, shown + turned),
            (("or", 1, 2), True, 0, shown), (("or", 2, 1), True, 1, shown),
        ]
        for row, truth, move, entries in cases:
            with self.subTest(row=row):
                self.told(ROW, true + untrue + (row,), truth, entries + [(3, NOBODY, truth, move)])

    def test_points_come_ahead_of_wishes(self):
        # x itself is the first move by which y is x or below it
        rows = (("same", "x", "y"), ("way", "y", "x", 0), ("or", 0, 1), ("some", "y", 2), ("some", "x", 3))
        self.told(ROW, rows, True, [
            (0, BOTH, True, None), (2, BOTH, True, 0), (3, ALONE, True, 0), (4, NOBODY, True, DOT)])

    def test_a_name_that_isnt_free_in_the_part(self):
        rows = (("same", "x", "x"), ("some", "x", 0), ("some", "y", 1), ("each", "z", 2))
        self.told(ROW, rows, True, [
            (0, ALONE, True, None), (1, NOBODY, True, DOT), (2, NOBODY, True, DOT), (3, NOBODY, True, None)])
        rows = (("same", "x", "x"), ("some", "y", 0), ("each", "x", 1))
        self.told(ROW, rows, True, [(0, ALONE, True, None), (1, ALONE, True, 0), (2, NOBODY, True, None)])
        rows = (("same", "x", "x"), ("not", 0), ("some", "y", 1), ("each", "x", 2))
        self.told(ROW, rows, False, [
            (0, ALONE, True, None), (1, ALONE, False, None), (2, ALONE, False, None), (3, NOBODY, False, DOT)])

    def test_a_name_bound_twice(self):
        rows = (("way", "x", "y", 0), ("some", "x", 0), ("each", "y", 1), ("some", "x", 2))
        told = judged(ROW, rows)
        alone = ((DOT,), (("y", 0),))
        self.assertEqual(told, (True, (
            (0, ABOVE, True, None), (1, alone, True, (0, (0,))), (2, NOBODY, True, None), (3, NOBODY, True, DOT))))

    def test_rows_that_arent_needed(self):
        rows = (("same", "x", "x"), ("some", "x", 0), ("way", "a", "b", 1), ("not", 2), ("and", 1, 1), ("not", 1))
        self.told(ROW, rows, False, [(0, ALONE, True, None), (1, NOBODY, True, DOT), (5, NOBODY, False, None)])

    def test_rows_shared(self):
        rows = (("same", "x", "x"), ("some", "x", 0)) + tuple(("and", number, number) for number in range(1, 38))
        entries = [(0, ALONE, True, None), (1, NOBODY, True, DOT)] + [(number, NOBODY, True, None) for number in range(2, 39)]
        self.told(ROW, rows, True, entries)

    def test_against_the_words(self):
        rules = (GRAY, GRAPH, ORDER, ROW, CLASSES, COUPLES, NO_TRIANGLE, NO_THREE, RINGED, COLOURED_ROW, BESIDE, NESTED, TURNED)
        kinds = set()
        for seed in range(260):
            rule = rules[seed % len(rules)]
            sentence = mixed_sentence(rule, seed + 1000, 6 + seed % 9, 0)
            told = judged(rule, sentence)
            slow = SlowJudge(rule, sentence)
            self.assertEqual(told, (slow.at(len(sentence) - 1, NOBODY), slow.table()))
            for row, standing, truth, move in told[1]:
                kinds.add((sentence[row][0], truth, type(move)))
                self.assertIs(type(truth), bool)
                self.assertNotIsInstance(row, bool)
                self.assertNotIsInstance(move, bool)
        plain = [(word, truth, type(None)) for word in ("same", "mark", "way", "not") for truth in (True, False)]
        joins = [("and", True, type(None)), ("and", False, int), ("or", True, int), ("or", False, type(None))]
        binds = [("some", True, int), ("some", True, tuple), ("some", False, type(None)),
                 ("each", False, int), ("each", False, tuple), ("each", True, type(None))]
        self.assertEqual(kinds, set(plain + joins + binds))

    def test_sorted_and_none_twice(self):
        for seed in range(40):
            sentence = mixed_sentence(NESTED, seed, 14, 0)
            table = judged(NESTED, sentence)[1]
            self.assertIs(type(table), tuple)
            self.assertEqual(sorted(set(entry[:2] for entry in table)), [entry[:2] for entry in table])

    def test_asked_again(self):
        sentence = read_sentence(ROW, TRUE[ROW][2])
        self.assertEqual(judged(ROW, sentence), judged(ROW, sentence))


class Times(unittest.TestCase):
    def test_forty_rows_and_three_names(self):
        for rule in (MIXED, TURNED, COLOURS, BESIDE, NESTED, COLOURED_ROW):
            for seed in range(3):
                sentence = mixed_sentence(rule, seed + 77, 37, 0)
                # and one in which the rows are all asked at all standings of three names
                wide = self.wide(rule, seed)
                for asked in (sentence, wide):
                    begun = time.perf_counter()
                    judged(rule, asked)
                    self.assertLess(time.perf_counter() - begun, 2)

    def wide(self, rule, seed):
        rows = [("way", "x", "y", 0), ("way", "y", "z", 1), ("way", "x", "z", 0), ("or", 0, 1), ("and", 2, 3)]
        while len(rows) < 37:
            rows.append((("and", "or")[(len(rows) + seed) % 2], len(rows) - 1, len(rows) - 5))
        rows += [("each", "z", 36), ("some", "y", 37), ("each", "x", 38)]
        return tuple(rows)

    def test_a_long_text(self):
        text = "x near y"
        while len(text) * 2 + 30 <= 4000:
            text = "(" + text + " or " + text.replace("y", "u").replace("x", "y").replace("u", "z") + ")"
        begun = time.perf_counter()
        self.assertIs(truth(MIXED, "each x each y each z " + text.replace("u", "z")), False)
        self.assertLess(time.perf_counter() - begun, 4)

    def test_deep_within_one_another(self):
        self.assertIs(truth(ROW, "not " * 900 + "some x x is x"), True)


if __name__ == "__main__":
    unittest.main()
