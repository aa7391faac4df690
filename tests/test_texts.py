import itertools
import unittest

from layworld.errors import BadText
from layworld.texts import read_rule, read_world, show_rule, show_world
from tests.samples import (
    BARRED, COLOURS, COUPLES, GRAPH, GRAY, MIXED, NO_TUPLES, ORDER, PLAIN, ROW, TURNED,
    all_shapes, mixed_bars, shaped, slow_figures, slow_part, some_world, with_barred, worlds_of,
)

NO_TEXTS = tuple(thing for thing in NO_TUPLES if not isinstance(thing, str)) + ((), ("marks a\nways b",), (0, ()))
MIXED_BARS = (((0, ()), (0, (0,)), (1, (0, 1))), ((1, ()), (1, (1,)), (1, (2, 1))))
MIXED_TEXT = (
    "marks red blue\nways near below/above\n"
    "bar red ; red near ; blue near below\nbar blue ; blue below ; blue above below"
)


def sample_rules():
    rules = list(PLAIN) + list(BARRED)
    for rule in all_shapes():
        rules.append(with_barred(rule, slow_figures(rule)))
        rules.extend(mixed_bars(rule, seed, share) for seed, share in ((1, 20), (2, 50), (3, 80)))
    return rules


class Refusals(unittest.TestCase):
    def refused(self, text, row):
        with self.subTest(text=text):
            with self.assertRaises(BadText) as caught:
                read_rule(text)
            self.assertEqual(caught.exception.row, row)

    def refused_world(self, rule, text):
        with self.subTest(text=text):
            with self.assertRaises(BadText) as caught:
                read_world(rule, text)
            self.assertEqual(caught.exception.row, 0)


class ShownRules(unittest.TestCase):
    def test_without_bars(self):
        self.assertEqual(show_rule(GRAY), "marks dot\nways near")
        self.assertEqual(show_rule(GRAPH), "marks dot\nways near far")
        self.assertEqual(show_rule(ORDER), "marks dot\nways below/above")
        self.assertEqual(show_rule(MIXED), "marks red blue\nways near below/above")
        self.assertEqual(show_rule(TURNED), "marks red blue\nways below/above near")
        self.assertEqual(show_rule(COLOURS), "marks red green blue\nways below/above")
        self.assertEqual(show_rule(shaped(2, (0, 1, 2))), "marks ma mb\nways wa wb wc")

    def test_with_bars(self):
        self.assertEqual(show_rule(ROW), "marks dot\nways below/above\nbar dot ; dot below ; dot above below")
        rows = "bar dot ; dot near ; dot near near\nbar dot ; dot near ; dot near far"
        self.assertEqual(show_rule(COUPLES), "marks dot\nways near far\n" + rows)
        self.assertEqual(show_rule(with_barred(MIXED, MIXED_BARS)), MIXED_TEXT)

    def test_every_figure_barred(self):
        for rule in all_shapes():
            figures = slow_figures(rule)
            rows = show_rule(with_barred(rule, figures)).split("\n")
            self.assertEqual(rows[:2], show_rule(rule).split("\n"))
            self.assertEqual(rows[2:], ["bar " + show_world(rule, figure) for figure in figures])


class ShownWorlds(unittest.TestCase):
    def test_told_ones(self):
        for rule in PLAIN:
            self.assertEqual(show_world(rule, ()), "")
        self.assertEqual(show_world(MIXED, ((1, ()),)), "blue")
        self.assertEqual(show_world(MIXED, ((1, ()), (0, (2,)))), "blue ; red above")
        self.assertEqual(show_world(MIXED, ((1, ()), (0, (2,)), (1, (0, 1)))), "blue ; red above ; blue near below")

    def test_written_as_they_stand(self):
        for rule in PLAIN:
            names = [name for name, back in rule[1]]
            for size in (1, 4, 30):
                world = some_world(rule, size, size)
                pieces = show_world(rule, world).split(" ; ")
                told = [(rule[0][mark], [names[way] for way in ways]) for mark, ways in world]
                self.assertEqual([(piece.split()[0], piece.split()[1:]) for piece in pieces], told)


class ReadRules(Refusals):
    def test_what_is_shown_is_read(self):
        for rule in sample_rules():
            text = show_rule(rule)
            self.assertEqual(read_rule(text), rule)
            self.assertEqual(show_rule(read_rule(text)), text)

    def test_bars_in_any_order(self):
        rule = mixed_bars(MIXED, 5, 40)
        rows = show_rule(rule).split("\n")
        self.assertGreater(len(rows), 6)
        self.assertEqual(read_rule("\n".join(rows[:2] + rows[:1:-1])), rule)
        self.assertEqual(read_rule("\n".join(rows[:2] + rows[5:] + rows[2:5])), rule)

    def test_points_of_a_three_in_any_order(self):
        for figure in slow_figures(MIXED):
            for order in itertools.permutations(range(3)):
                row = "bar " + show_world(MIXED, slow_part(MIXED, figure, order))
                self.assertEqual(read_rule(show_rule(MIXED) + "\n" + row), with_barred(MIXED, [figure]))

    def test_names_of_other_rules_and_near_the_words(self):
        text = "marks a zzzzzzzz\nways mark way/isor"
        self.assertEqual(read_rule(text), (("a", "zzzzzzzz"), (("mark", 0), ("way", 2), ("isor", 1)), ()))
        self.assertEqual(read_rule("marks same\nways true"), (("same",), (("true", 0),), ()))

    def test_no_text(self):
        for thing in NO_TEXTS:
            self.refused(thing, 0)

    def test_no_marks_row(self):
        for row in ("", " ", "marks", "marks ", " marks dot", "marks  dot", "marks dot ", "Marks dot", "mark dot",
                    "marksdot", "marks\tdot", "ways near", "ways dot", "bar dot", "dot", "marks dot\r",
                    "marks dot  blue", "marks dot ; blue", "marks dot/blue", "marks dot,blue"):
            self.refused(row + "\nways near", 0)
            self.refused(row, 0)

    def test_wrong_names_of_marks(self):
        for names in ("Dot", "d0t", "d-t", "abcdefghi", "marks", "ways", "bar", "some", "each", "not", "and", "or",
                      "is", "dot dot", "a b a", "a b b", "a b c d", "a b c d e", ";", "/"):
            self.refused(f"marks {names}\nways near", 0)

    def test_it_ends_ahead_of_its_ways(self):
        self.refused("marks dot", 1)
        self.refused("marks a b c", 1)

    def test_no_ways_row(self):
        for row in ("", " ", "ways", "ways ", " ways near", "ways  near", "ways near ", "way near", "Ways near",
                    "waysnear", "marks dot", "marks near", "bar dot ; dot near ; dot near near", "near",
                    "ways near  far", "ways near ; far", "ways near,far", "ways near\r"):
            self.refused("marks dot\n" + row, 1)
            self.refused("marks dot\n" + row + "\nbar dot", 1)

    def test_wrong_names_of_ways(self):
        for names in ("Near", "n3ar", "abcdefghi", "marks", "ways", "bar", "some", "each", "not", "and", "or", "is",
                      "near near", "near far near", "near dot", "dot", "dot/near", "near/dot", "near near/far",
                      "near far/near", "near/far near", "near/far far", "near/some", "is/near"):
            self.refused("marks dot\nways " + names, 1)

    def test_wrong_strokes(self):
        for names in ("a/a", "a/b/c", "/", "/a", "a/", "a//b", "a/b/", "/a/b", "a /b", "a/ b", "a / b", "a/b c/",
                      "a/b /c", "a\\b"):
            self.refused("marks dot\nways " + names, 1)

    def test_bounds(self):
        self.refused("marks dot\nways a b c d", 1)
        self.refused("marks dot\nways a/b c/d", 1)
        self.refused("marks dot\nways a b/c d", 1)
        self.refused("marks x y z\nways a b c", 1)
        self.refused("marks x y z\nways a b/c", 1)
        self.assertEqual(len(read_rule("marks x y z\nways a b")[1]), 2)
        self.assertEqual(len(read_rule("marks x y\nways a/b c")[1]), 3)

    def test_rows_exchanged_left_out_doubled_empty(self):
        rows = MIXED_TEXT.split("\n")
        self.assertEqual(read_rule("\n".join(rows)), with_barred(MIXED, MIXED_BARS))
        self.refused("\n".join(rows[1:]), 0)
        self.refused("\n".join(rows[:1] + rows[2:]), 1)
        self.refused("\n".join([rows[1], rows[0]] + rows[2:]), 0)
        self.refused("\n".join([rows[0], rows[2], rows[1], rows[3]]), 1)
        for place in range(4):
            self.refused("\n".join(rows[:place + 1] + rows[place:]), place + 1)
            self.refused("\n".join(rows[:place] + [""] + rows[place:]), place)
        self.refused("\n".join(rows) + "\n", 4)
        self.refused("\n".join(rows) + "\n\n", 4)
        self.refused("\n".join(rows) + "\n ", 4)
        self.refused("\n".join(rows[:2]) + "\n", 2)
        self.refused("marks red blue\n", 1)
        self.refused("\n", 0)

    def test_the_first_wrong_row_counts(self):
        self.refused("marks dot dot\nways near near\nbar", 0)
        self.refused("marks dot\nways near near\nbar", 1)
        self.refused("marks dot\nways near\nbar\nbar", 2)
        self.refused("marks dot\nways near\nbar dot ; dot near ; dot near near\nbar x\nbar y", 3)

    def test_wrong_bars(self):
        head = "marks red blue\nways near below/above\n"
        good = "bar blue ; red near ; red below above"
        self.assertEqual(len(read_rule(head + good)[2]), 1)
        for row in ("bar", "bar ", "bar  ", "bar red", "bar red ; red near", "bars red ; red near ; red near near",
                    "bar red ; red near ; red near near ; red near near near", "bar red ; red ; red near near",
                    "bar red near ; red near ; red near near", "bar red ; red near near ; red near near",
                    "bar red ; red near ; red near", "bar red ; red near ; red near near near",
                    "bar green ; red near ; red near near", "bar red ; green near ; red near near",
                    "bar red ; red near ; green near near", "bar red ; red far ; red near near",
                    "bar red ; red near ; red near far", "bar red ; red near ; red far near",
                    "bar red ; red blue ; red near near", "bar near ; red near ; red near near",
                    "bar red ; red below/above ; red near near", " bar red ; red near ; red near near",
                    "bar  red ; red near ; red near near", "bar red ; red near ; red near near ",
                    "bar red  ; red near ; red near near", "bar red ;  red near ; red near near",
                    "bar red ; red  near ; red near near", "bar red ; red near ; red near  near",
                    "bar red; red near ; red near near", "bar red ;red near ; red near near",
                    "bar red;red near;red near near", "bar red , red near , red near near",
                    "bar red ; red near ; red near near ;", "bar red ; red near ; red near near ; ",
                    "bar ; red ; red near ; red near near", "Bar red ; red near ; red near near",
                    "red ; red near ; red near near", "bar 0 ; 0 0 ; 0 0 0", "marks red", "ways near"):
            self.refused(head + row, 2)
            self.refused(head + good + "\n" + row, 3)
            self.refused(head + row + "\n" + good, 2)

    def test_a_three_whose_figure_came_ahead(self):
        for figure in slow_figures(MIXED)[::5]:
            for first in itertools.permutations(range(3)):
                for second in itertools.permutations(range(3)):
                    rows = [show_world(MIXED, slow_part(MIXED, figure, order)) for order in (first, second)]
                    self.refused(show_rule(MIXED) + "\nbar " + "\nbar ".join(rows), 3)

    def test_every_figure_and_one_again(self):
        rule = with_barred(COLOURS, slow_figures(COLOURS))
        rows = show_rule(rule).split("\n")
        for row in (rows[2], rows[-1]):
            self.refused("\n".join(rows + [row]), len(rows))

    def test_the_same_each_time(self):
        text = MIXED_TEXT
        self.assertEqual(read_rule(text), read_rule(text))
        self.assertEqual(text, show_rule(read_rule(text)))


class ReadWorlds(Refusals):
    def test_what_is_shown_is_read(self):
        for rule in PLAIN:
            for size in range(4):
                for world in worlds_of(rule, size)[::7] + [some_world(rule, size, 1)]:
                    self.assertEqual(read_world(rule, show_world(rule, world)), world)
            world = some_world(rule, 30, 3)
            self.assertEqual(read_world(rule, show_world(rule, world)), world)

    def test_told_ones(self):
        self.assertEqual(read_world(MIXED, ""), ())
        self.assertEqual(read_world(MIXED, "blue"), ((1, ()),))
        self.assertEqual(read_world(MIXED, "blue ; red above"), ((1, ()), (0, (2,))))

    def test_worlds_that_may_not_stand_are_read(self):
        ring = ((0, ()), (0, (0,)), (0, (1, 0)))
        self.assertEqual(read_world(ROW, "dot ; dot below ; dot above below"), ring)

    def test_no_text(self):
        for thing in NO_TEXTS:
            self.refused_world(MIXED, thing)

    def test_wrong_texts(self):
        for text in (" ", ";", " ; ", "\n", "red\n", "\nred", "red ; red near\n", "red\nred near", " red", "red ",
                     "Red", "re", "reds", "green", "near", "red near", "red red", "red ;", "red ; ", "; red", " ; red",
                     "red ; red", "red ; red near near", "red ; red red", "red ; near red", "red ; near",
                     "red ; red far", "red ; green near", "red ; red below/above", "red ;  red near",
                     "red  ; red near", "red ; red  near", "red ; red near ", " red ; red near", "red;red near",
                     "red; red near", "red ;red near", "red , red near", "red ; ; red near", "red ;  ; red near",
                     "red ; red near ; red near", "red ; red near ; red near near near",
                     "red ; red near ; red near far", "red ; red near ; red", "red ; red near ; ", "red ; red near ;", "red ; red nea", "red ; re",
                     "bar red", "marks", "0", "0 ; 0 0", "red\t; red near", "red ; red\tnear"):
            self.refused_world(MIXED, text)

    def test_cut_texts(self):
        text = show_world(MIXED, some_world(MIXED, 4, 9))
        whole = [show_world(MIXED, some_world(MIXED, 4, 9)[:size]) for size in range(5)]
        for size in range(len(text)):
            if text[:size] not in whole:
                self.refused_world(MIXED, text[:size])

    def test_words_of_another_rule(self):
        self.refused_world(GRAPH, "red")
        self.refused_world(MIXED, "dot")


if __name__ == "__main__":
    unittest.main()
