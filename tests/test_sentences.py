import unittest

from layworld.errors import NoSentence
from layworld.sentences import free_names, look_sentence
from tests.samples import COLOURS, GRAPH, MIXED, NO_TUPLES, SPLIT, mixed_sentence, slow_free

# every kind of row, no name free in the last one
EVERY_KIND = (
    ("same", "x", "y"),
    ("mark", "x", 1),
    ("way", "y", "x", 2),
    ("not", 0),
    ("and", 1, 2),
    ("or", 3, 4),
    ("some", "y", 5),
    ("each", "x", 6),
)


class LookSentence(unittest.TestCase):
    def refused(self, thing, row, rule=MIXED):
        with self.subTest(thing=thing):
            with self.assertRaises(NoSentence) as caught:
                look_sentence(rule, thing)
            self.assertEqual(caught.exception.row, row)
            self.assertNotIsInstance(caught.exception.row, bool)

    def refused_row(self, row, rule=MIXED):
        """The row is refused behind others that are right, alone, and where right ones follow."""
        ahead = (("same", "x", "x"), ("not", 0))
        self.refused(ahead + (row,), 2, rule)
        self.refused(ahead + (row, ("not", 0)), 2, rule)
        self.refused((row,), 0, rule)

    def test_every_kind_of_row(self):
        for size in range(1, len(EVERY_KIND) + 1):
            self.assertIs(look_sentence(MIXED, EVERY_KIND[:size]), True)

    def test_bounds_of_numbers_and_names(self):
        for row in (("same", "x", "x"), ("same", "abc", "zzz"), ("same", "a", "aa"), ("mark", "x", 0),
                    ("mark", "x", 1), ("way", "x", "y", 0), ("way", "x", "y", 2), ("way", "x", "x", 1)):
            self.assertIs(look_sentence(MIXED, (row,)), True)
        # the marks and ways of a point's rule don't take their names from points, nor do the words of rows
        for name in ("red", "x", "way", "all", "the", "m", "w", "i", "ba", "no", "an", "o", "soe", "eac"):
            self.assertIs(look_sentence(MIXED, (("mark", name, 0), ("some", name, 0))), True)

    def test_by_a_rule_that_doesnt_lay(self):
        self.assertIs(look_sentence(SPLIT, (("way", "x", "y", 1),)), True)

    def test_no_tuple_or_no_rows(self):
        for thing in NO_TUPLES + ((), [("same", "x", "x")], {}):
            self.refused(thing, 0)

    def test_rows_of_no_form(self):
        for row in NO_TUPLES + ((), ["same", "x", "x"], (("same", "x", "x"),), "same x x", "same"):
            self.refused_row(row)

    def test_other_words_or_none(self):
        for word in ("", "Same", "same ", "sam", "is", "marks", "ways", "bar", "all", "xor", ":", "(", None, True, False,
                     0, 1, (), ("same",), [], ["same"], ("and", "or")):
            self.refused_row((word, "x", "x"))
            self.refused_row((word, "x", 0))
            self.refused_row((word, 0, 0))
            self.refused_row((word,))

    def test_a_part_more_or_fewer(self):
        for row in EVERY_KIND:
            number = len(EVERY_KIND)
            for wrong in (row[:-1], row[:1], row + (0,), row + ("x",), row + (None,), row[1:], row + row[1:]):
                self.refused(EVERY_KIND + (wrong,), number)

    def test_no_names(self):
        for name in ("", "abcd", "some", "each", "X", "aB", "a1", "1", "a b", " a", "a ", "\n", "a\n", "\u00e9", "_", ":",
                     "(", "bar", "not", "and", "or", "is", "marks", "ways", None, True, False, 0, 1, (), ("x",), [], ["x"]):
            for row in (("same", name, "x"), ("same", "x", name), ("mark", name, 0), ("way", name, "x", 0),
                        ("way", "x", name, 0)):
                self.refused_row(row)
            for word in ("some", "each"):
                self.refused((("same", "x", "x"), (word, name, 0)), 1)

    def test_marks_and_ways_that_there_arent(self):
        for number in (-1, -2, 3, 4, 100, "0", "red", "near", "", None, True, False, (), (0,), [], [0]):
            self.refused_row(("mark", "x", number))
            self.refused_row(("way", "x", "y", number))
        self.refused_row(("mark", "x", 2))
        self.assertIs(look_sentence(COLOURS, (("mark", "x", 2),)), True)
        self.refused_row(("way", "x", "y", 2), COLOURS)
        self.refused_row(("mark", "x", 1), GRAPH)
        self.assertIs(look_sentence(GRAPH, (("way", "x", "y", 1),)), True)

    def test_rows_that_are_none_ahead(self):
        ahead = (("same", "x", "x"), ("same", "y", "y"))
        for number in (-1, -2, 2, 3, 100, "0", "x", "", None, True, False, (), (0,), [], [0]):
            for row in (("not", number), ("and", number, 0), ("and", 0, number), ("or", number, 0), ("or", 0, number),
                        ("some", "x", number), ("each", "x", number)):
                self.refused(ahead + (row,), 2)
                # also where rows follow, so that there would be a row of this number
                self.refused(ahead + (row, ("not", 0), ("not", 0)), 2)
        for row in (("not", 0), ("and", 0, 0), ("some", "x", 0)):
            self.refused((row,), 0)

    def test_the_first_wrong_row(self):
        right = ("same", "x", "x")
        for number in range(5):
            self.refused((right,) * number + (("not", number), None, ("mark", "x", 9)), number)

    def test_more_than_three_free_names(self):
        rows = (("same", "a", "b"), ("same", "c", "a"), ("and", 0, 1))
        self.assertIs(look_sentence(MIXED, rows), True)
        for row in (("same", "d", "d"), ("mark", "d", 0), ("way", "a", "d", 0)):
            for word in ("and", "or"):
                self.refused(rows + (row, (word, 2, 3)), 4)
                self.refused(rows + (row, (word, 3, 2)), 4)
                self.refused(rows + (row, (word, 3, 2), ("some", "d", 4)), 4)
        four = (("same", "a", "b"), ("way", "c", "d", 0), ("and", 0, 1))
        self.refused(four, 2)
        self.refused(four + (None,), 2)

    def test_a_wrong_form_ahead_of_free_names_and_behind(self):
        four = (("same", "a", "b"), ("way", "c", "d", 0), ("and", 0, 1))
        self.refused((("not", 0),) + four, 0)
        self.refused(four + (("not", 9),), 2)

    def test_four_names_with_some_bound(self):
        rows = (("same", "a", "b"), ("same", "c", "a"), ("and", 0, 1), ("some", "c", 2), ("mark", "d", 0), ("or", 3, 4))
        self.assertIs(look_sentence(MIXED, rows), True)
        self.assertIs(look_sentence(MIXED, rows + (("each", "e", 5), ("some", "a", 6))), True)
        # where it binds a name that isn't free there, none is taken away
        bound = (("same", "a", "b"), ("same", "c", "a"), ("and", 0, 1), ("some", "d", 2), ("mark", "d", 0), ("or", 3, 4))
        self.refused(bound, 5)

    def test_many_rows_shared(self):
        rows = (("same", "x", "y"),) + tuple(("and", number, number) for number in range(60))
        self.assertIs(look_sentence(MIXED, rows), True)
        self.refused(rows + (("not", 61),), 61)


class FreeNames(unittest.TestCase):
    def test_each_kind_of_row(self):
        told = [["x", "y"], ["x"], ["x", "y"], ["x", "y"], ["x", "y"], ["x", "y"], ["x"], []]
        for row, names in enumerate(told):
            self.assertEqual(free_names(EVERY_KIND, row), names)
            self.assertEqual(free_names(EVERY_KIND[:row + 1], row), names)

    def test_sorted_and_each_once(self):
        rows = (("same", "y", "x"), ("way", "z", "z", 0), ("mark", "b", 0), ("and", 1, 0), ("or", 3, 3), ("or", 1, 2),
                ("way", "zz", "z", 0), ("or", 6, 2), ("same", "y", "y"))
        told = [["x", "y"], ["z"], ["b"], ["x", "y", "z"], ["x", "y", "z"], ["b", "z"], ["z", "zz"], ["b", "z", "zz"],
                ["y"]]
        self.assertEqual([free_names(rows, row) for row in range(len(rows))], told)

    def test_bound_names(self):
        rows = (("same", "x", "y"), ("some", "x", 0), ("each", "y", 0), ("some", "z", 0), ("and", 1, 2), ("each", "x", 1),
                ("or", 4, 0), ("each", "y", 6))
        told = [["x", "y"], ["y"], ["x"], ["x", "y"], ["x", "y"], ["y"], ["x", "y"], ["x"]]
        self.assertEqual([free_names(rows, row) for row in range(len(rows))], told)

    def test_against_the_words(self):
        for seed in range(60):
            rows = mixed_sentence(MIXED, seed, 20)
            for row in range(len(rows)):
                self.assertEqual(free_names(rows, row), sorted(slow_free(rows, row)))
            self.assertIs(look_sentence(MIXED, rows), True)

    def test_many_rows_shared(self):
        rows = (("same", "x", "y"),) + tuple(("or", number, number) for number in range(60))
        self.assertEqual(free_names(rows, 60), ["x", "y"])

    def test_the_askers_own(self):
        told = free_names(EVERY_KIND, 5)
        self.assertIs(type(told), list)
        told.append("z")
        told[0] = "a"
        self.assertEqual(free_names(EVERY_KIND, 5), ["x", "y"])


if __name__ == "__main__":
    unittest.main()
