import itertools
import unittest

from layworld.always import is_put_on, is_unlaid
from layworld.counts import unlike_worlds
from layworld.desk import answer
from layworld.errors import BadText, NoLaying, NoRow, NoRule, NoSentence, NoShare, NoWorld
from layworld.growth import Growth
from layworld.judge import judged
from layworld.laying import laid
from layworld.sentencetexts import show_sentence
from layworld.texts import read_world, show_rule, show_world
from layworld.threes import first_barred
from tests.samples import (
    BESIDE, CLASSES, COLOURED_ROW, COLOURS, COUPLES, GRAPH, GRAY, MIXED, NESTED, NO_THREE, NO_TRIANGLE, NO_TUPLES, ORDER,
    PENTAGON, RINGED, ROW, SPLIT, mixed_bars, mixed_sentence, shaped, slow_figures, some_standing, some_world, with_barred,
)

ROW_TEXT = "marks dot\nways below/above\nbar dot ; dot below ; dot above below"
GRAPH_TEXT = "marks dot\nways near far"
SPLIT_TEXT = show_rule(SPLIT)
CLASSES_TEXT = show_rule(CLASSES)
LAYS = (GRAY, GRAPH, ORDER, ROW, CLASSES, COUPLES, NO_TRIANGLE, NO_THREE, RINGED, COLOURED_ROW, BESIDE, NESTED, COLOURS, MIXED)


class Desk(unittest.TestCase):
    def told(self, rule, row):
        told = answer(show_rule(rule), row)
        self.assertIs(type(told), str)
        self.assertEqual(answer(show_rule(rule), row), told)
        return told

    def unfilled(self, rule, told, word):
        """What is told behind the word, read: a base and two points over it."""
        self.assertTrue(told.startswith(word + " "))
        pieces = told[len(word) + 1:].split(" | ")
        self.assertEqual(len(pieces), 3)
        base = read_world(rule, pieces[0])
        points = [read_world(rule, pieces[0] + " ; " * bool(pieces[0]) + piece)[-1] for piece in pieces[1:]]
        return (base, points[0], points[1])

    def test_lays(self):
        for rule in LAYS:
            self.assertEqual(self.told(rule, "lays"), "always")
        for rule in (SPLIT, PENTAGON, with_barred(ORDER, slow_figures(ORDER)), with_barred(MIXED, slow_figures(MIXED))):
            self.assertTrue(is_unlaid(rule, self.unfilled(rule, self.told(rule, "lays"), "never")))

    def test_apart(self):
        for rule in (GRAY, GRAPH, ORDER, ROW, CLASSES, NO_TRIANGLE, BESIDE, NESTED, COLOURED_ROW):
            self.assertEqual(self.told(rule, "apart"), "always")
        for rule in (COUPLES, NO_THREE, RINGED, SPLIT, PENTAGON):
            self.assertTrue(is_put_on(rule, self.unfilled(rule, self.told(rule, "apart"), "not")))
        # any three are one too many: over a point, the two that are near to it can only be the same
        self.assertEqual(self.told(NO_THREE, "apart"), "not dot | dot near | dot near")

    def test_mixed_rules(self):
        seen = set()
        for seed in range(60):
            rule = mixed_bars((MIXED, COLOURS, GRAPH, shaped(1, (0, 1, 2)))[seed % 4], seed, 10 + seed)
            for row, word, looked in (("lays", "never", is_unlaid), ("apart", "not", is_put_on)):
                told = self.told(rule, row)
                seen.add((row, told == "always"))
                if told != "always":
                    self.assertTrue(looked(rule, self.unfilled(rule, told, word)))
        self.assertEqual(len(seen), 4)

    def test_may(self):
        self.assertEqual(answer(ROW_TEXT, "may "), "yes")
        self.assertEqual(answer(ROW_TEXT, "may dot"), "yes")
        self.assertEqual(answer(ROW_TEXT, "may dot ; dot below ; dot below below"), "yes")
        self.assertEqual(answer(ROW_TEXT, "may dot ; dot below ; dot above below"), "no 0 1 2")
        self.assertEqual(answer(ROW_TEXT, "may dot ; dot below ; dot below below ; dot above below below"), "no 0 1 3")
        # by any rule, whether it always lays or not
        self.assertEqual(answer(SPLIT_TEXT, "may dot ; dot near ; dot near far"), "no 0 1 2")
        self.assertEqual(answer(SPLIT_TEXT, "may dot ; dot near"), "yes")

    def test_may_of_large_worlds(self):
        for rule in (CLASSES, NESTED, COLOURED_ROW, SPLIT):
            for seed in range(8):
                for world in (some_world(rule, 13, seed), some_standing(rule, 5, seed)):
                    three = first_barred(rule, world)
                    told = "yes" if three is None else f"no {three[0]} {three[1]} {three[2]}"
                    self.assertEqual(self.told(rule, "may " + show_world(rule, world)), told)

    def test_grow(self):
        self.assertEqual(answer(ROW_TEXT, "grow 0"), "")
        self.assertEqual(answer(ROW_TEXT, "grow 1"), "dot")
        self.assertEqual(answer(ROW_TEXT, "grow 2"), "dot ; dot below")
        self.assertEqual(answer(ROW_TEXT, "grow 3"), "dot ; dot below ; dot above above")
        for rule in LAYS[:5] + (COLOURED_ROW, BESIDE, NESTED):
            growth = Growth(rule, tuple(range(len(rule[1]))))
            for number in range(21):
                self.assertEqual(self.told(rule, f"grow {number}"), show_world(rule, growth.world()))
                growth.step()

    def test_grow_to_the_end(self):
        # over no points, over the first, over the second, over both: one wish each, but none over both
        self.assertEqual(self.told(NO_THREE, "grow 2"), "dot ; dot near")
        self.assertEqual(self.told(NO_THREE, "grow 3"), "dot ; dot near")
        for number in (4, 5, 20):
            self.assertEqual(self.told(NO_THREE, f"grow {number}"), "end 3 dot ; dot near")
        for rule in (RINGED, mixed_bars(shaped(1, (1, 0, 2)), 50, 50), mixed_bars(shaped(2, (0,)), 1, 50)):
            growth = Growth(rule, tuple(range(len(rule[1]))))
            for number in range(21):
                if growth.steps() == number:
                    told = show_world(rule, growth.world())
                else:
                    told = f"end {growth.steps()} {show_world(rule, growth.world())}"
                self.assertEqual(self.told(rule, f"grow {number}"), told)
                growth.step()

    def test_judge(self):
        self.assertEqual(answer(ROW_TEXT, "judge each x some y x below y"), "true")
        self.assertEqual(answer(ROW_TEXT, "judge some x each y (x is y or x below y)"), "untrue")
        for rule in (ROW, CLASSES, NESTED, COLOURED_ROW):
            for seed in range(12):
                sentence = mixed_sentence(rule, seed, 7, 0)
                told = "true" if judged(rule, sentence)[0] else "untrue"
                self.assertEqual(self.told(rule, "judge " + show_sentence(rule, sentence)), told)

    def test_count(self):
        self.assertEqual([answer(GRAPH_TEXT, f"count {number}") for number in range(5)], ["1", "1", "2", "4", "11"])
        self.assertEqual([answer(ROW_TEXT, f"count {number}") for number in range(5)], ["1"] * 5)
        self.assertEqual([self.told(RINGED, f"count {number}") for number in range(5)], ["1", "1", "1", "1", "0"])
        self.assertEqual(answer(SPLIT_TEXT, "count 4"), str(len(unlike_worlds(SPLIT, 4))))
        self.assertEqual(self.told(MIXED, "count 3"), str(len(unlike_worlds(MIXED, 3))))
        self.assertEqual(self.told(shaped(1, (0, 1, 2)), "count 4"), str(len(unlike_worlds(shaped(1, (0, 1, 2)), 4))))

    def test_lay(self):
        self.assertEqual(answer(ROW_TEXT, "lay dot ; dot below | dot ; dot below | 0-0"), "dot ; dot below ; dot below below | 0 2")
        self.assertEqual(answer(ROW_TEXT, "lay dot | dot | "), "dot ; dot below | 1")
        self.assertEqual(answer(ROW_TEXT, "lay dot ; dot below | dot ; dot above | 0-1 1-0"), "dot ; dot below | 1 0")
        self.assertEqual(answer(show_rule(NO_THREE), "lay dot ; dot near | dot ; dot near | 1-0"), "dot ; dot near | 1 0")
        self.assertEqual(answer(show_rule(NO_THREE), "lay dot ; dot near | dot | "), "dot ; dot near | 1")

    def test_lay_worlds_without_signs(self):
        self.assertEqual(answer(ROW_TEXT, "lay  |  | "), " | ")
        self.assertEqual(answer(ROW_TEXT, "lay dot |  | "), "dot | ")
        self.assertEqual(answer(ROW_TEXT, "lay  | dot ; dot above | "), "dot ; dot above | 0 1")

    def test_none(self):
        # near ones are all near, far ones all far: a near and a far one over one point can't be laid
        self.assertEqual(answer(SPLIT_TEXT, "lay dot ; dot near | dot ; dot far | 0-0"), "none 1 1")
        self.assertEqual(answer(SPLIT_TEXT, "lay dot ; dot near | dot ; dot near | 0-0"), "dot ; dot near ; dot near near | 0 2")
        self.assertEqual(answer(SPLIT_TEXT, "lay dot ; dot far | dot ; dot near ; dot near near | 1-2"), "none 0 0")

    def test_lay_mixed_worlds(self):
        seen = set()
        for seed, rule in itertools.product(range(25), (SPLIT, PENTAGON, NESTED, COUPLES, COLOURED_ROW)):
            one = some_standing(rule, seed % 5, seed)
            other = some_standing(rule, seed % 4, seed + 100)
            pairs = tuple((number, number) for number in range(seed % 3))
            row = f"lay {show_world(rule, one)} | {show_world(rule, other)} | " + " ".join(f"{i}-{j}" for i, j in pairs)
            try:
                world, places = laid(rule, one, other, pairs)
                told = show_world(rule, world) + " | " + " ".join(str(place) for place in places)
            except NoLaying as refused:
                told = f"none {refused.one} {refused.other}"
            except NoShare:
                with self.assertRaises(NoShare):
                    answer(show_rule(rule), row)
                continue
            self.assertEqual(self.told(rule, row), told)
            seen.add(told.startswith("none"))
        self.assertEqual(seen, {True, False})


class Refused(unittest.TestCase):
    def refused(self, text, asked, error, **fields):
        with self.subTest(text=text, asked=asked):
            with self.assertRaises(error) as caught:
                answer(text, asked)
            self.assertIs(type(caught.exception), error)
            for name, value in fields.items():
                self.assertEqual(getattr(caught.exception, name), value)

    def no_row(self, row, text=ROW_TEXT):
        self.refused(text, row, NoRow)

    def test_the_rules_text_ahead_of_all(self):
        rows = ("lays", "foo", "may x", "grow 99", "judge", None, "lay ", "judge x is y")
        for row in rows:
            self.refused("marks", row, BadText, row=0)
            self.refused("marks dot", row, BadText, row=1)
            self.refused("marks dot\nways below/above\nbar dot", row, BadText, row=2)
            self.refused(GRAPH_TEXT + "\n", row, BadText, row=2)
            self.refused(ROW_TEXT + "\n" + ROW_TEXT.split("\n")[2], row, BadText, row=3)
            self.refused(None, row, BadText, row=0)
            self.refused("", row, BadText, row=0)

    def test_no_words(self):
        for row in ("", " ", "foo", "Lays", "LAYS", "lay", "may", "grow", "judge", "count", "lays ", " lays", "lays lays", "lays 1",
                    "apart ", "apart dot", "apart\n", "lays\n", "\nlays", "always", "never", "yes", "mays dot", "growth 1",
                    "laying  |  | ", "lay\n", "judged x", "counts 1", "may\tdot", "grow\t1", "maydot", " may dot", " grow 1",
                    "may;dot", "unlaid", "put_on", "bar", "marks", "lay|"):
            self.no_row(row)
            self.no_row(row, SPLIT_TEXT)

    def test_no_text(self):
        for row in NO_TUPLES + ((), ("lays",), ["lays"], {}):
            if not isinstance(row, str):
                self.no_row(row)
                self.no_row(row, SPLIT_TEXT)

    def test_numbers(self):
        for word in ("grow", "count"):
            for number in ("", "-1", "+1", "-0", "+0", "01", "00", "001", "1.0", "1e1", "x", "dot", "1 ", " 1", "1 1", "1\n", "\n1",
                           "1,", "0x1", "1_0", "\u0661", "\u00b2", "1234567890", "0000000001", "123456789", "100", "1-1", "1|"):
                self.no_row(f"{word} {number}")
                # ahead of the refusal of a rule that doesn't always lay
                self.no_row(f"{word} {number}", SPLIT_TEXT)
        for number in (21, 22, 30, 99, 999999999):
            self.no_row(f"grow {number}")
        self.assertEqual(answer(ROW_TEXT, "grow 20"), answer(ROW_TEXT, "grow 20"))

    def test_counts_beyond(self):
        for number in (5, 6, 10, 999999999):
            self.no_row(f"count {number}")
            self.no_row(f"count {number}", show_rule(GRAY))
        # more than a thousand worlds told in an order: 2 marks and 2 ways make 1,024 of four points
        for rule in (shaped(2, (0, 1)), MIXED, COLOURS, NESTED, with_barred(COLOURS, slow_figures(COLOURS))):
            self.no_row("count 4", show_rule(rule))
            answer(show_rule(rule), "count 3")
        for rule in (shaped(1, (0, 1, 2)), shaped(3, (0,)), shaped(1, (1, 0))):
            answer(show_rule(rule), "count 4")

    def test_parting_of_lay(self):
        for rest in ("", "dot", "dot | dot", "dot | dot |", "dot | dot | 0-0 | ", "dot | dot | 0-0 |  | ", "dot | dot |  | ", "dot|dot|",
                     "dot | dot|0-0", "dot ; dot | 0-0", " | ", "|  | ", "dot  |  dot", "| | ", " | | ", "dot | dot |0-0", "dot |dot | "):
            self.no_row("lay " + rest)
            self.no_row("lay " + rest, SPLIT_TEXT)

    def test_pairs_that_are_no_such_words(self):
        for pairs in ("0", "0-", "-0", "-", "0-0-0", "0--0", "0-0 ", " 0-0", "0-0  0-0", "0 0", "0-0,1-1", "0-0;", "a-b", "0-x", "00-0",
                      "0-00", "01-1", "1-01", "+0-0", "0-+0", "-1-0", "0--1", "1234567890-0", "0-1234567890", "0:0", "0-0\n", "(0-0)",
                      " ", "0 - 0", "0- 0", "0-0 1", "none"):
            self.no_row(f"lay dot | dot | {pairs}")
            # ahead of texts that are no worlds'
            self.no_row(f"lay x | dot dot | {pairs}")

    def test_texts_that_write_no_world(self):
        for text in ("x", "dot dot", "dot ; dot", "dot ; dot near", " dot", "dot ", "dot  ", "dot;dot below", "dot ; dot below below",
                     "dot ; dot  below", "dot ;", " ; ", ";", "dot\n", "dot\ndot below", "0", "dot ; below", "dot ; dot below/above"):
            self.refused(ROW_TEXT, "may " + text, BadText, row=0)
            self.refused(ROW_TEXT, f"lay {text} | dot | ", BadText, row=0)
            self.refused(ROW_TEXT, f"lay dot | {text} | 0-0", BadText, row=0)
            # ahead of worlds that may not stand, and of pairs that share nothing
            self.refused(ROW_TEXT, f"lay dot ; dot below ; dot above below | {text} | 7-7", BadText, row=0)
            self.refused(ROW_TEXT, f"lay {text} | dot ; dot below ; dot above below | 7-7", BadText, row=0)
        self.refused(ROW_TEXT, "may  ", BadText, row=0)
        self.refused(ROW_TEXT, "may  dot", BadText, row=0)
        self.refused(ROW_TEXT, "lay  dot | dot | ", BadText, row=0)
        self.refused(ROW_TEXT, "lay dot |  dot | ", BadText, row=0)
        self.refused(ROW_TEXT, "lay dot  | dot | ", BadText, row=0)

    def test_texts_that_write_no_sentence(self):
        for text in ("", " ", "x", "x is", "x is y ", " x is y", "x is  y", "(x is y)", "x near y", "x : red", "some x", "not", "each x\n",
                     "some x x is x\n", "some x  x is x", "(a is b and c is d)", "true"):
            self.refused(ROW_TEXT, "judge " + text, BadText, row=0)
            # ahead of the refusal of a rule that doesn't always lay
            self.refused(SPLIT_TEXT, "judge " + text.replace("near", "below"), BadText, row=0)

    def test_worlds_that_may_not_stand(self):
        ring = "dot ; dot below ; dot above below"
        later = "dot ; dot below ; dot below below ; dot above below below"
        self.refused(ROW_TEXT, f"lay {ring} | dot | ", NoWorld, point=2)
        self.refused(ROW_TEXT, f"lay dot | {ring} | ", NoWorld, point=2)
        self.refused(ROW_TEXT, f"lay {later} | {ring} | ", NoWorld, point=3)
        self.refused(ROW_TEXT, f"lay {ring} | {later} | ", NoWorld, point=2)
        self.refused(ROW_TEXT, f"lay dot | {later} | 0-0", NoWorld, point=3)
        # ahead of pairs that share nothing
        self.refused(ROW_TEXT, f"lay {later} | dot | 9-9", NoWorld, point=3)
        self.refused(SPLIT_TEXT, "lay dot ; dot near ; dot far near | dot | 0-3", NoWorld, point=2)

    def test_pairs_that_share_no_part(self):
        for pairs in ("0-1", "1-0", "0-0 0-0", "0-0 1-0", "0-2", "2-0", "0-999999999", "999999999-0", "123456789-123456789"):
            self.refused(ROW_TEXT, f"lay dot | dot | {pairs}", NoShare)
        self.refused(ROW_TEXT, "lay dot ; dot below | dot ; dot above | 0-0 1-1", NoShare)
        self.refused(ROW_TEXT, "lay  |  | 0-0", NoShare)
        self.refused("marks red blue\nways near", "lay red | blue | 0-0", NoShare)
        # ahead of points that can't be laid
        self.refused(SPLIT_TEXT, "lay dot ; dot near | dot ; dot far | 0-0 1-1", NoShare)

    def test_free_names(self):
        for text, row in (("x is x", 0), ("not x is y", 1), ("some x x below y", 1), ("(x is x and some x x is x)", 3)):
            self.refused(ROW_TEXT, "judge " + text, NoSentence, row=row)
            self.refused(SPLIT_TEXT, "judge " + text.replace("below", "near"), NoSentence, row=row)

    def test_rules_that_dont_always_lay(self):
        for text in (SPLIT_TEXT, show_rule(PENTAGON)):
            for row in ("grow 0", "grow 1", "grow 20", "judge some x x is x", "judge each x each y (x is y or x near y)"):
                self.refused(text, row, NoRule, word="lays")
            for row in ("lays", "apart", "may dot", "count 2", "lay dot | dot | "):
                answer(text, row)


if __name__ == "__main__":
    unittest.main()
