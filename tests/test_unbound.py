import random
import time
import unittest

from layworld.errors import NoRule
from layworld.growth import Growth
from layworld.judge import judged
from layworld.sentences import free_names, look_sentence
from layworld.sentencetexts import read_sentence, show_sentence
from layworld.standings import standings
from layworld.unbound import holds_at, unbound
from tests.samples import (
    BESIDE, CLASSES, COLOURED_ROW, COLOURS, COUPLES, GRAPH, GRAY, MIXED, NESTED, NO_THREE, NO_TRIANGLE, ORDER, PENTAGON, ROW,
    SPLIT, TURNED, SlowJudge, holds_in, mixed_bars, mixed_sentence, plain_row_holds, shaped, slow_free, slow_standings,
)

RULES = (GRAY, GRAPH, ORDER, ROW, CLASSES, COUPLES, NO_TRIANGLE, NO_THREE, COLOURED_ROW, BESIDE, NESTED, TURNED, COLOURS)
DOT = (0, ())
ALONE = ((DOT,), (("x", 0),))
BOTH = ((DOT,), (("x", 0), ("y", 0)))
BELOW = ((DOT, (0, (0,))), (("x", 0), ("y", 1)))
ABOVE = ((DOT, (0, (1,))), (("x", 0), ("y", 1)))


def sentences_of(rule, count, seed):
    """Mixed sentences of the rule with one or two free names."""
    found = []
    while len(found) < count:
        sentence = mixed_sentence(rule, seed, 6 + seed % 8, 2)
        if slow_free(sentence, len(sentence) - 1):
            found.append(sentence)
        seed += 1
    return found


def told_at(rule, text):
    return holds_at(rule, read_sentence(rule, text))


class HoldsAt(unittest.TestCase):
    def test_one_free_name(self):
        self.assertEqual(told_at(ROW, "x is x"), [ALONE])
        self.assertEqual(told_at(ROW, "not x is x"), [])
        self.assertEqual(told_at(ROW, "some y x below y"), [ALONE])
        self.assertEqual(told_at(ROW, "each y (x is y or x below y)"), [])
        green = (((1, ()),), (("ab", 0),))
        self.assertEqual(told_at(COLOURS, "ab : green"), [green])
        others = [(((mark, ()),), (("ab", 0),)) for mark in (0, 2)]
        self.assertEqual(told_at(COLOURS, "not ab : green"), others)

    def test_two_free_names(self):
        self.assertEqual(told_at(ROW, "x is y"), [BOTH])
        self.assertEqual(told_at(ROW, "not x is y"), [BELOW, ABOVE])
        # by its ways a point stands to those ahead: where y stands in way 1 to x, x is below y
        self.assertEqual(told_at(ROW, "x below y"), [ABOVE])
        self.assertEqual(told_at(ROW, "some z (x below z and z below y)"), [ABOVE])
        self.assertEqual(told_at(ROW, "each z (not x below z or y below z)"), [BOTH, BELOW])
        self.assertEqual(told_at(ROW, "some z (z below x and z below y)"), [BOTH, BELOW, ABOVE])
        self.assertEqual(told_at(ROW, "each z (z below x or z below y)"), [])

    def test_against_the_words(self):
        seen = set()
        for rule in RULES:
            for sentence in sentences_of(rule, 14, 40):
                last = len(sentence) - 1
                there = slow_standings(rule, sorted(slow_free(sentence, last)))
                slow = SlowJudge(rule, sentence)
                told = holds_at(rule, sentence)
                self.assertIs(type(told), list)
                self.assertEqual(told, [standing for standing in there if slow.at(last, standing)])
                self.assertEqual(holds_at(rule, sentence + (("not", last),)), [held for held in there if held not in told])
                seen.add((rule, len(there[0][1]), bool(told), len(told) == len(there)))
        self.assertEqual({kind[1:] for kind in seen}, {(names, *kind) for names in (1, 2) for kind in (
            (True, True), (True, False), (False, False))})

    def test_in_a_world_at_its_end(self):
        for shape, seed in ((shaped(1, (1, 0, 2)), 50), (shaped(2, (0,)), 1), (shaped(1, (0, 1)), 7)):
            rule = mixed_bars(shape, seed, 50)
            growth = Growth(rule, tuple(range(len(rule[1]))))
            while growth.step() is not None:
                pass
            for sentence in sentences_of(rule, 20, 11):
                self.holds_of_grown_points(rule, growth.world(), sentence)

    def holds_of_grown_points(self, rule, world, sentence):
        last = len(sentence) - 1
        names = sorted(slow_free(sentence, last))
        plain = unbound(rule, sentence)
        for one in range(len(world)):
            for other in range(len(world)):
                places = dict(zip(names, (one, other)))
                told = holds_in(rule, sentence, last, world, places)
                self.assertEqual(told, holds_in(rule, plain, len(plain) - 1, world, places))

    def test_the_askers_own(self):
        sentence = read_sentence(ROW, "not x is y")
        told = holds_at(ROW, sentence)
        told.clear()
        self.assertEqual(holds_at(ROW, sentence), [BELOW, ABOVE])

    def test_bound_around(self):
        # what holds at all standings of a name holds of each point, what holds at one of some
        for rule in (COLOURS, NESTED, ROW):
            for sentence in sentences_of(rule, 20, 90):
                names = sorted(slow_free(sentence, len(sentence) - 1))
                if len(names) == 1:
                    last = len(sentence) - 1
                    told = holds_at(rule, sentence)
                    every = judged(rule, sentence + (("each", names[0], last),))[0]
                    one = judged(rule, sentence + (("some", names[0], last),))[0]
                    self.assertEqual((every, one), (len(told) == len(rule[0]), len(told) > 0))


class Unbound(unittest.TestCase):
    def looked_at(self, rule, sentence):
        plain = unbound(rule, sentence)
        last = len(plain) - 1
        self.assertIs(look_sentence(rule, plain), True)
        self.assertEqual(free_names(plain, last), free_names(sentence, len(sentence) - 1))
        self.assertEqual([row for row in plain if row[0] in ("some", "each")], [])
        self.assertEqual(holds_at(rule, plain), holds_at(rule, sentence))
        self.assertLessEqual(len(plain), 40)
        self.assertEqual(unbound(rule, sentence), plain)
        # also by the words
        there = slow_standings(rule, free_names(plain, last))
        slow = SlowJudge(rule, plain)
        self.assertEqual([held for held in there if slow.at(last, held)], holds_at(rule, sentence))
        text = show_sentence(rule, plain)
        self.assertLessEqual(len(text), 4000)
        self.assertEqual(holds_at(rule, read_sentence(rule, text)), holds_at(rule, sentence))

    def test_all_some_and_none(self):
        for text in ("x is x", "not x is x", "some y x below y", "each y (x is y or x below y)", "x is y", "not x is y", "x below y",
                     "some z (x below z and z below y)", "some z (z below x and z below y)", "each z (z below x or z below y)",
                     "(x is x and y is y)", "(x is x and not y is y)", "some z x is y", "each x x is y", "some a x below y"):
            self.looked_at(ROW, read_sentence(ROW, text))

    def test_marks(self):
        for text in ("x : red", "not x : green", "(x : red and x : blue)", "some y (y : red and (x is y or x : blue))",
                     "(x : red or y : green)", "some z (z : red and (z is x or z is y))", "each z ((z below x or z below y) or z : red)"):
            self.looked_at(COLOURS, read_sentence(COLOURS, text))

    def test_mixed_sentences(self):
        for rule in RULES:
            for sentence in sentences_of(rule, 8, 200):
                self.looked_at(rule, sentence)

    def test_any_choice_of_standings(self):
        # also the choices that take the most rows to tell
        chance = random.Random(9)
        for rule in (COLOURS, MIXED, COLOURED_ROW, NESTED):
            there = standings(rule, ["x", "yyy"])
            for share in (0, 10, 30, 45, 50, 55, 70, 90, 100) * 2:
                chosen = [held for held in there if chance.random() * 100 < share]
                sentence = self.sentence_at(chosen)
                self.assertEqual(holds_at(rule, sentence), chosen)
                self.looked_at(rule, sentence)

    def sentence_at(self, chosen):
        rows = [("same", "x", "yyy"), ("not", 0), ("and", 0, 1)]
        joined = 2
        for world, places in chosen:
            first = len(rows)
            if len(world) == 1:
                rows += [("mark", "x", world[0][0]), ("same", "x", "yyy"), ("and", first, first + 1)]
            else:
                rows += [("mark", "x", world[0][0]), ("mark", "yyy", world[1][0]), ("way", "yyy", "x", world[1][1][0]),
                         ("and", first, first + 1), ("and", first + 2, first + 3)]
            rows.append(("or", joined, len(rows) - 1))
            joined = len(rows) - 1
        return tuple(rows)

    def test_by_the_points_alone(self):
        # what is told without some and each can be looked up in any world that has the points
        sentence = read_sentence(NO_TRIANGLE, "some z (z near x and z near y)")
        plain = unbound(NO_TRIANGLE, sentence)
        for standing in standings(NO_TRIANGLE, ["x", "y"]):
            places = dict(standing[1])
            near = plain_row_holds(NO_TRIANGLE, ("way", "x", "y", 0), standing[0], places)
            self.assertEqual(holds_in(NO_TRIANGLE, plain, len(plain) - 1, standing[0], places), not near)


class Refused(unittest.TestCase):
    def test_rules_that_dont_always_lay(self):
        for rule in (SPLIT, PENTAGON):
            for asked in (holds_at, unbound):
                for text in ("x is x", "x near y", "some z x is z"):
                    with self.assertRaises(NoRule) as caught:
                        asked(rule, read_sentence(rule, text))
                    self.assertEqual(caught.exception.word, "lays")


class Times(unittest.TestCase):
    def test_forty_rows(self):
        for rule in (MIXED, COLOURS, NESTED, COLOURED_ROW):
            rows = [("way", "x", "y", 0), ("way", "y", "z", 1), ("way", "x", "z", 0), ("or", 0, 1), ("and", 2, 3)]
            while len(rows) < 36:
                rows.append((("and", "or", "some", "each")[len(rows) % 4],) + self.parts(len(rows)))
            rows += [("or", 35, 0), ("or", 36, 4), ("each", "z", 37), ("and", 38, 0)]
            self.assertIs(look_sentence(rule, tuple(rows)), True)
            begun = time.perf_counter()
            unbound(rule, tuple(rows))
            self.assertLess(time.perf_counter() - begun, 4)

    def parts(self, ahead):
        return (ahead - 1, ahead - 4) if ahead % 4 < 2 else ("abcdefghi"[ahead // 4], ahead - 3)


if __name__ == "__main__":
    unittest.main()
