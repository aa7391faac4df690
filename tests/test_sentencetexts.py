import re
import unittest

from layworld.errors import BadText
from layworld.sentences import look_sentence
from layworld.sentencetexts import read_sentence, show_sentence
from tests.samples import COLOURS, GRAPH, MIXED, NO_TUPLES, ORDER, SPLIT, mixed_sentence, slow_free, slow_spread, slow_text

DENSE = "each x each y (not x below y or some z (x below z and z below y))"
DENSE_ROWS = (
    ("way", "x", "y", 0), ("not", 0), ("way", "x", "z", 0), ("way", "z", "y", 0), ("and", 2, 3), ("some", "z", 4),
    ("or", 1, 5), ("each", "y", 6), ("each", "x", 7),
)
# names of marks and ways that are also names of points, or words of rows
CALLED = (("x", "same"), (("y", 0), ("mark", 2), ("way", 1)), ())


class ShowSentence(unittest.TestCase):
    def test_each_kind_of_row(self):
        rows = (("same", "x", "y"), ("mark", "x", 1), ("way", "y", "x", 2), ("not", 0), ("and", 1, 2), ("or", 3, 4),
                ("some", "y", 5), ("each", "x", 6))
        told = [
            "x is y", "x : blue", "y above x", "not x is y", "(x : blue and y above x)",
            "(not x is y or (x : blue and y above x))", "some y (not x is y or (x : blue and y above x))",
            "each x some y (not x is y or (x : blue and y above x))",
        ]
        self.assertEqual([show_sentence(MIXED, rows[:size + 1]) for size in range(len(rows))], told)

    def test_marks_and_ways(self):
        self.assertEqual(show_sentence(COLOURS, (("mark", "abc", 2),)), "abc : blue")
        self.assertEqual(show_sentence(GRAPH, (("way", "b", "a", 1),)), "b far a")
        self.assertEqual(show_sentence(SPLIT, (("way", "b", "b", 0),)), "b near b")
        self.assertEqual(show_sentence(ORDER, DENSE_ROWS), DENSE)

    def test_not_and_bound_names_stand_without_brackets(self):
        rows = (("same", "x", "y"), ("and", 0, 0), ("not", 1), ("not", 2), ("some", "x", 3), ("not", 4), ("each", "y", 5))
        self.assertEqual(show_sentence(MIXED, rows), "each y not some x not not (x is y and x is y)")

    def test_rows_shared(self):
        rows = (("mark", "x", 0), ("or", 0, 0), ("and", 1, 1), ("and", 2, 0))
        told = "(((x : red or x : red) and (x : red or x : red)) and x : red)"
        self.assertEqual(show_sentence(MIXED, rows), told)

    def test_rows_not_used(self):
        rows = (("mark", "x", 0), ("mark", "y", 0), ("not", 0), ("some", "z", 1), ("not", 1))
        self.assertEqual(show_sentence(MIXED, rows), "not y : red")
        # their texts would double at each row
        rows = (("same", "x", "y"),) + tuple(("and", number, number) for number in range(38)) + (("not", 0),)
        self.assertEqual(show_sentence(MIXED, rows), "not x is y")
        self.assertEqual(show_sentence(MIXED, rows[:-1] + (("some", "x", 0),)), "some x x is y")

    def test_names_of_marks_and_ways(self):
        rows = (("way", "y", "x", 0), ("mark", "x", 0), ("and", 0, 1), ("some", "way", 2), ("way", "y", "y", 1), ("or", 3, 4))
        self.assertEqual(show_sentence(CALLED, rows), "(some way (y y x and x : x) or y mark y)")

    def test_against_the_words(self):
        for seed in range(60):
            rows = mixed_sentence(MIXED, seed, 12)
            self.assertEqual(show_sentence(MIXED, rows), slow_text(MIXED, rows, len(rows) - 1))

    def test_a_text_of_4000_signs(self):
        rows = [("same", "x", "y")]
        while len(slow_text(MIXED, rows, len(rows) - 1)) * 2 + 7 <= 4000:
            rows.append(("or", len(rows) - 1, len(rows) - 1))
        self.assertEqual(show_sentence(MIXED, tuple(rows)), slow_text(MIXED, rows, len(rows) - 1))


class ReadSentence(unittest.TestCase):
    def refused(self, text, rule=ORDER):
        with self.subTest(text=text):
            with self.assertRaises(BadText) as caught:
                read_sentence(rule, text)
            self.assertEqual(caught.exception.row, 0)

    def test_each_kind_of_row(self):
        told = {
            "x is y": (("same", "x", "y"),),
            "x : blue": (("mark", "x", 1),),
            "y above x": (("way", "y", "x", 2),),
            "not x : red": (("mark", "x", 0), ("not", 0)),
            "(x : blue and y near x)": (("mark", "x", 1), ("way", "y", "x", 0), ("and", 0, 1)),
            "(x : blue or y below x)": (("mark", "x", 1), ("way", "y", "x", 1), ("or", 0, 1)),
            "some abc abc is abc": (("same", "abc", "abc"), ("some", "abc", 0)),
            "each x y is x": (("same", "y", "x"), ("each", "x", 0)),
        }
        for text, rows in told.items():
            self.assertEqual(read_sentence(MIXED, text), rows)

    def test_rows_in_the_told_order(self):
        self.assertEqual(read_sentence(ORDER, DENSE), DENSE_ROWS)
        text = "((x is y or x is y) and not (x is y and some y not x is y))"
        rows = (("same", "x", "y"), ("same", "x", "y"), ("or", 0, 1), ("same", "x", "y"), ("same", "x", "y"), ("not", 4),
                ("some", "y", 5), ("and", 3, 6), ("not", 7), ("and", 2, 8))
        self.assertEqual(read_sentence(ORDER, text), rows)

    def test_names_of_marks_and_ways(self):
        rows = (("way", "y", "x", 0), ("mark", "x", 0), ("and", 0, 1), ("some", "way", 2), ("way", "y", "y", 1), ("or", 3, 4))
        self.assertEqual(read_sentence(CALLED, "(some way (y y x and x : x) or y mark y)"), rows)
        self.assertEqual(read_sentence(CALLED, "way way way"), (("way", "way", "way", 2),))
        self.assertEqual(read_sentence(CALLED, "some mar y y mar"), (("way", "y", "mar", 0), ("some", "mar", 0)))

    def test_what_is_shown_is_read(self):
        for seed in range(120):
            rows = mixed_sentence(MIXED, seed, 9)
            told = read_sentence(MIXED, show_sentence(MIXED, rows))
            self.assertEqual(told, slow_spread(rows, len(rows) - 1))
            self.assertEqual(show_sentence(MIXED, told), show_sentence(MIXED, rows))
            self.assertIs(look_sentence(MIXED, told), True)

    def test_forty_within_one_another(self):
        for head in ("not ", "some x ", "each y "):
            for times in (1, 20, 40):
                told = read_sentence(ORDER, head * times + "x is y")
                self.assertEqual(len(told), times + 1)
                self.assertEqual(show_sentence(ORDER, told), head * times + "x is y")
        left = "(" * 40 + "x is y" + " and y is x)" * 40
        right = "(x is y or " * 40 + "x is y" + ")" * 40
        for text in (left, right):
            told = read_sentence(ORDER, text)
            self.assertEqual(len(told), 81)
            self.assertEqual(show_sentence(ORDER, told), text)
        self.refused(left[1:])
        self.refused("(" + left)
        self.refused(right + ")")
        self.refused(right[:-1])

    def test_deeper_than_that(self):
        text = "not " * 998 + "x is y"
        self.assertEqual(len(read_sentence(ORDER, text)), 999)
        self.assertEqual(show_sentence(ORDER, read_sentence(ORDER, text)), text)

    def test_texts_of_4000_signs(self):
        text = "x is y"
        while len(text) * 2 + 6 <= 4000:
            text = "(" + text + " or " + text + ")"
        while len(text) + 4 <= 4000:
            text = "not " + text
        self.assertGreater(len(text), 3996)
        told = read_sentence(ORDER, text)
        self.assertEqual(show_sentence(ORDER, told), text)
        self.refused(text[:-1])
        self.refused(text + ")")

    def test_no_text(self):
        for thing in NO_TUPLES + ((), ("x is y",), ["x is y"], {}):
            self.refused(thing)

    def held_against_the_words(self, rule, text):
        """Read, or refused, as another reader does; told is whether it is read."""
        with self.subTest(text=text):
            told = slow_reading(rule, text)
            if told is None:
                self.refused(text, rule)
            else:
                self.assertEqual(read_sentence(rule, text), told)
            return told is not None

    def test_a_word_more_fewer_or_another(self):
        text = "each x (not some y y below x or x : dot)"
        self.assertTrue(self.held_against_the_words(ORDER, text))
        words = text.split(" ")
        others = ["", "dot", "below", "not", "some", "each", "is", ":", "and", "or", "x", "Q", "(", ")", "(x", "x)", "(not"]
        read = 0
        for place in range(len(words)):
            self.assertFalse(self.held_against_the_words(ORDER, " ".join(words[:place] + words[place + 1:])))
            for word in others:
                read += self.held_against_the_words(ORDER, " ".join(words[:place] + [word] + words[place + 1:]))
                read += self.held_against_the_words(ORDER, " ".join(words[:place] + [word] + words[place:]))
        # some other words stand there as rightly, such as another name, or a not more
        self.assertLess(read, 60)

    def test_a_sign_more_fewer_or_another(self):
        read = 0
        for text in (DENSE, "(x is y and not (x : dot or y above x))", "some a each b (b is a or a below b)"):
            self.assertTrue(self.held_against_the_words(ORDER, text))
            for place in range(len(text) + 1):
                self.held_against_the_words(ORDER, text[:place] + text[place + 1:])
                self.held_against_the_words(ORDER, text[:place])
                self.held_against_the_words(ORDER, text[place:])
                for sign in " ()xnX:1\n/;|-":
                    read += self.held_against_the_words(ORDER, text[:place] + sign + text[place:])
                    read += self.held_against_the_words(ORDER, text[:place] + sign + text[place + 1:])
        self.assertGreater(read, 20)

    def test_blanks_and_line_feeds(self):
        for text in ("x is y", "not x is y", "(x is y and y is x)", DENSE):
            for wrong in (" " + text, text + " ", text + "\n", "\n" + text, "\t" + text, text.replace(" ", "  "),
                          text.replace(" ", "\n"), text.replace(" ", "\t"), text.replace(" ", ""), text + text,
                          text + " " + text, text + "\n" + text):
                self.refused(wrong)
        for text in ("", " ", "\n", "  "):
            self.refused(text)

    def test_brackets(self):
        for text in ("(x is y)", "((x is y and y is x))", "not (x is y)", "(not x is y)", "some x (x is y)", "x is y and y is x",
                     "not x is y and y is x", "(x is y and y is x", "x is y and y is x)", "(x is y and y is x))",
                     "( x is y and y is x)", "(x is y and y is x )", "(x is y and y is x and x is y)", "(x is y y is x)",
                     "(and x is y y is x)", "(x is y andy is x)", "(x is y not y is x)", "[x is y and y is x]",
                     "()", "(", ")", "(and)", "( and )", "(x is y and )", "( and x is y)", "(x is y and)", "(some x) x is y",
                     "(x) is y", "x is (y)", "some (x) x is y", "(some x x is y)", "(x is y) and (y is x)",
                     "(x is y or y is x and x is y)", "((x is y and y is x) or)", "(x is y and y is x)(x is y or y is x)"):
            self.refused(text)

    def test_unknown_marks_and_ways(self):
        for text in ("x : red", "x : do", "x : dots", "x : below", "x : x", "x : 0", "x :", "x : ", "x: dot", "x :dot", "x:dot",
                     ": dot", "x near y", "x dot y", "x 0 y", "x belo y", "x below", "below y", "x below/above y",
                     "x below above y", "x : dot dot", "x is", "is y", "x is is y", "x is not y", "x not below y"):
            self.refused(text)
            self.refused("not " + text)
            self.refused("some x " + text)
            self.refused("(" + text + " or x is y)")
            self.refused("(x is y or " + text + ")")

    def test_names_that_are_none(self):
        for name in ("abcd", "", "X", "x1", "1", "bar", "not", "and", "or", "is", "some", "each", "marks", "ways", ":", "_",
                     "x-", "\u00e9", "x,", "."):
            for text in (f"{name} is x", f"x is {name}", f"{name} : dot", f"{name} below x", f"x above {name}",
                         f"some {name} x is y", f"each {name} x is y"):
                self.refused(text)
        for text in ("some x is y", "each x", "some", "not", "some x", "some x y x is y", "some x, x is y", "each x : dot"):
            self.refused(text)

    def test_more_than_three_free_names(self):
        text = "((a is b and c : dot) or b below c)"
        self.assertEqual(len(read_sentence(ORDER, text)), 5)
        self.refused("(" + text + " or d : dot)")
        self.refused("some d (" + text + " or d : dot)")
        self.refused("(a is b or c is d)")
        self.assertEqual(len(read_sentence(ORDER, "(some c " + text + " or d : dot)")), 8)
        self.assertEqual(len(read_sentence(ORDER, "(" + text + " or some d d : dot)")), 8)

    def test_by_other_rules(self):
        self.assertEqual(read_sentence(SPLIT, "x far y"), (("way", "x", "y", 1),))
        self.refused("x far y", ORDER)
        self.assertEqual(read_sentence(COLOURS, "x : blue"), (("mark", "x", 2),))
        self.refused("x : blue", GRAPH)


def slow_reading(rule, text):
    """The rows that the text writes, or None, by trying each form, and each and and or at which it may be parted."""
    rows = reading_from(rule, text)
    if rows is not None and any(len(slow_free(rows, row)) > 3 for row in range(len(rows))):
        return None
    return rows


def reading_from(rule, text):
    name = r"(?!(?:bar|not|and|or|is)\b)([a-z]{1,3})"
    same = re.fullmatch(name + " is " + name, text)
    mark = re.fullmatch(name + " : ([a-z]+)", text)
    way = re.fullmatch(name + " ([a-z]+) " + name, text)
    bound = re.fullmatch("(some|each) " + name + " (.*)", text)
    ways = [pair[0] for pair in rule[1]]
    if same:
        return (("same", same[1], same[2]),)
    if mark and mark[2] in rule[0]:
        return (("mark", mark[1], rule[0].index(mark[2])),)
    if way and way[2] in ways:
        return (("way", way[1], way[3], ways.index(way[2])),)
    if bound and reading_from(rule, bound[3]) is not None:
        rows = reading_from(rule, bound[3])
        return rows + ((bound[1], bound[2], len(rows) - 1),)
    if text.startswith("not ") and reading_from(rule, text[4:]) is not None:
        rows = reading_from(rule, text[4:])
        return rows + (("not", len(rows) - 1),)
    if text.startswith("(") and text.endswith(")"):
        return parted_reading(rule, text[1:-1])
    return None


def parted_reading(rule, text):
    for found in re.finditer(" (and|or) ", text):
        one = reading_from(rule, text[:found.start()])
        other = reading_from(rule, text[found.end():]) if one is not None else None
        if other is not None:
            there = [row[:1] + tuple(field + len(one) if isinstance(field, int) else field for field in row[1:])
                     if row[0] not in ("mark", "way") else row for row in other]
            return one + tuple(there) + ((found[1], len(one) - 1, len(one) + len(other) - 1),)
    return None


if __name__ == "__main__":
    unittest.main()
