import functools
import random
import time
import unittest

from layworld.errors import NoRule
from layworld.judge import judged
from layworld.sentencetexts import read_sentence
from layworld.standings import standings
from layworld.tables import table_holds
from tests.samples import (
    BESIDE, CLASSES, COLOURED_ROW, COLOURS, COUPLES, GRAPH, MIXED, NESTED, NO_THREE, NO_TRIANGLE, NO_TUPLES, ORDER,
    PENTAGON, ROW, SPLIT, TURNED, SlowJudge, kept_wishes, mixed_sentence, slow_free, slow_standings,
)

NOBODY = ((), ())
DOT = (0, ())
ALONE = ((DOT,), (("x", 0),))
BOTH = ((DOT,), (("x", 0), ("y", 0)))
BELOW = ((DOT, (0, (0,))), (("x", 0), ("y", 1)))
ABOVE = ((DOT, (0, (1,))), (("x", 0), ("y", 1)))
# each x has a y above it, and there is one that is the same
ASKED = (("way", "y", "x", 1), ("same", "x", "y"), ("or", 0, 1), ("some", "y", 2), ("each", "x", 3))
TABLE = ((1, BOTH, True, None), (2, BOTH, True, 1), (3, ALONE, True, 0), (4, NOBODY, True, None))
RULES = (GRAPH, ORDER, ROW, CLASSES, COUPLES, NO_TRIANGLE, NO_THREE, COLOURED_ROW, BESIDE, NESTED, TURNED)


@functools.lru_cache(maxsize=None)
def shown_standings(rule, names):
    return [repr(held) for held in slow_standings(rule, names)]


def slow_holds(rule, sentence, table):
    """Whether the table holds, by the words; things of unlike kinds are told apart by how they are shown."""
    if type(table) is not tuple:
        return False
    slow = SlowJudge(rule, sentence)
    truths = {}
    for entry in table:
        if type(entry) is not tuple or len(entry) != 4:
            return False
        row, standing, truth, move = entry
        if type(row) is not int or not 0 <= row < len(sentence) or type(truth) is not bool:
            return False
        if repr(standing) not in shown_standings(rule, tuple(sorted(slow_free(sentence, row)))) or (row, standing) in truths:
            return False
        truths[row, standing] = truth
    shown = all(slow_shown(slow, truths, *entry) for entry in table)
    return shown and (len(sentence) - 1, NOBODY) in truths


def slow_shown(slow, truths, row, standing, truth, move):
    word = slow.sentence[row][0]
    parts = slow.parts(row, standing)
    if (word, truth) in (("or", True), ("some", True), ("and", False), ("each", False)):
        return any(repr(held) == repr(move) and truths.get((part, there)) is truth for held, part, there in parts)
    wanted = not truth if word == "not" else truth
    if word in ("same", "mark", "way") and slow.at(row, standing) is not truth:
        return False
    return move is None and all(truths.get((part, there)) is wanted for held, part, there in parts)


class Holds(unittest.TestCase):
    def holds(self, rule, sentence, table):
        self.assertIs(table_holds(rule, sentence, table), True)

    def fails(self, rule, sentence, table):
        with self.subTest(table=table):
            self.assertIs(table_holds(rule, sentence, table), False)

    def test_what_is_told(self):
        self.assertEqual(judged(ROW, ASKED), (True, TABLE))
        self.holds(ROW, ASKED, TABLE)
        for seed in range(110):
            rule = RULES[seed % len(RULES)]
            sentence = mixed_sentence(rule, seed, 6 + seed % 9, 0)
            self.holds(rule, sentence, judged(rule, sentence)[1])

    def test_in_any_order(self):
        self.holds(ROW, ASKED, TABLE[::-1])
        self.holds(ROW, ASKED, TABLE[2:] + TABLE[:2])

    def test_more_entries(self):
        more = TABLE + ((0, ABOVE, True, None), (2, ABOVE, True, 0), (0, BOTH, False, None), (1, ABOVE, False, None))
        self.holds(ROW, ASKED, more)
        # each of them has to be shown, though it isn't needed
        self.fails(ROW, ASKED, TABLE + ((2, ABOVE, True, 0),))
        self.fails(ROW, ASKED, TABLE + ((0, ABOVE, False, None),))
        self.fails(ROW, ASKED, TABLE + ((3, ALONE, True, 0),))

    def test_another_move_by_which_it_is_so(self):
        upper = ((0, ABOVE, True, None), (2, ABOVE, True, 0), (3, ALONE, True, (0, (1,))), (4, NOBODY, True, None))
        self.holds(ROW, ASKED, upper)
        self.holds(ROW, ASKED, ((1, BOTH, True, None), (2, BOTH, True, 1)) + upper)
        # a move by which it isn't so
        self.fails(ROW, ASKED, upper[:2] + ((3, ALONE, True, (0, (0,))),) + upper[3:])
        self.fails(ROW, ASKED, upper[:2] + ((3, ALONE, True, 0),) + upper[3:])

    def test_without_an_entry_that_is_needed(self):
        for place in range(len(TABLE)):
            self.fails(ROW, ASKED, TABLE[:place] + TABLE[place + 1:])

    def test_one_twice(self):
        for entry in TABLE:
            self.fails(ROW, ASKED, TABLE + (entry,))
        # also with another move, or another truth
        self.fails(ROW, ASKED, TABLE + ((0, ABOVE, True, None), (2, ABOVE, True, 0), (3, ALONE, True, (0, (1,)))))
        self.fails(ROW, ASKED, TABLE + ((1, BOTH, False, None),))

    def changed(self, place, field, thing):
        entry = TABLE[place]
        return TABLE[:place] + (entry[:field] + (thing,) + entry[field + 1:],) + TABLE[place + 1:]

    def test_a_truth_turned(self):
        for place in range(len(TABLE)):
            self.fails(ROW, ASKED, self.changed(place, 2, False))
        turned = tuple((row, standing, not truth, move) for row, standing, truth, move in TABLE)
        self.fails(ROW, ASKED, turned)

    def test_a_number_for_a_truth(self):
        for thing in (1, 0, None, "True", (), "", (True,), [True]):
            for place in range(len(TABLE)):
                self.fails(ROW, ASKED, self.changed(place, 2, thing))

    def test_wrong_moves(self):
        for place, right in ((0, (None,)), (1, (1,)), (2, (0,)), (3, (None,))):
            for move in (None, 0, 1, 2, -1, True, False, DOT, (0, (0,)), (0, (1,)), (0, [1]), [0, (1,)], (0, (2,)), (1, (0,)),
                         (False, (True,)), (0, (True,)), (0, (0, 0)), "", "0", (), [], (0,), 10 ** 30):
                if not [held for held in right if repr(held) == repr(move)]:
                    self.fails(ROW, ASKED, self.changed(place, 3, move))

    def test_a_wish_made_of_truths(self):
        upper = [(0, ABOVE, True, None), (2, ABOVE, True, 0), (3, ALONE, True, (0, (1,))), (4, NOBODY, True, None)]
        for move in ((0, (True,)), (False, (1,)), (0, [1]), [0, (1,)], (0, (1, 0)), (0, (1,), 0)):
            self.fails(ROW, ASKED, tuple(upper[:2] + [(3, ALONE, True, move)] + upper[3:]))

    def test_a_wish_that_may_not_stand(self):
        # no third point may stand; were it so, this would show a point that is neither of both
        rows = (("same", "x", "z"), ("same", "y", "z"), ("or", 0, 1), ("not", 2), ("some", "z", 3), ("some", "y", 4),
                ("some", "x", 5))
        near = (0, (0,))
        three = ((DOT, near, (0, (0, 0))), (("x", 0), ("y", 1), ("z", 2)))
        pairs = ((DOT, near), (("x", 0), ("z", 1))), ((DOT, near), (("y", 0), ("z", 1)))
        table = ((0, pairs[0], False, None), (1, pairs[1], False, None), (2, three, False, None), (3, three, True, None),
                 (4, ((DOT, near), (("x", 0), ("y", 1))), True, (0, (0, 0))), (5, ALONE, True, near), (6, NOBODY, True, DOT))
        self.fails(NO_THREE, rows, table)
        # by a rule that lets by three points it is the same table that holds
        self.holds((NO_THREE[0], NO_THREE[1], ()), rows, table)

    def test_lists_for_tuples(self):
        self.fails(ROW, ASKED, list(TABLE))
        for place in range(len(TABLE)):
            self.fails(ROW, ASKED, TABLE[:place] + (list(TABLE[place]),) + TABLE[place + 1:])
        for standing in ([DOT, (("x", 0),)], ([DOT], (("x", 0),)), (([0, ()],), (("x", 0),)), (((0, []),), (("x", 0),)),
                         ((DOT,), [("x", 0)]), ((DOT,), (["x", 0],))):
            self.fails(ROW, ASKED, self.changed(2, 1, standing))

    def test_rows_that_there_arent(self):
        for row in (5, -1, -4, 100, "1", None, (), [], True, False):
            for place in range(len(TABLE)):
                self.fails(ROW, ASKED, self.changed(place, 0, row))
            self.fails(ROW, ASKED, TABLE + ((row, BOTH, True, None),))
            self.fails(ROW, ASKED, TABLE + ((row, NOBODY, True, None),))

    def test_truths_for_numbers(self):
        # Python takes True for 1 and False for 0
        self.fails(ROW, ASKED, ((True,) + TABLE[0][1:],) + TABLE[1:])
        for standing in (((DOT,), (("x", 0), ("y", False))), (((False, ()),), (("x", 0), ("y", 0)))):
            self.fails(ROW, ASKED, self.changed(0, 1, standing))
            self.fails(ROW, ASKED, self.changed(1, 1, standing))
        more = ((0, ABOVE, True, None), (2, ABOVE, True, 0))
        self.holds(ROW, ASKED, TABLE + more)
        for standing in (((DOT, (0, (True,))), ABOVE[1]), (ABOVE[0], (("x", 0), ("y", True)))):
            self.fails(ROW, ASKED, TABLE + ((0, standing, True, None), more[1]))

    def test_points_numbered_otherwise(self):
        turned = (((0, ()), (0, (0,))), (("x", 1), ("y", 0)))
        for standing in (turned, (turned[0], (("x", 0), ("y", 2))), (ABOVE[0], (("y", 1), ("x", 0))), (ABOVE[0], (("x", -2), ("y", -1))),
                         (ABOVE[0], (("x", 0), ("y", 0))), (ABOVE[0], BOTH[1]), (BOTH[0], ABOVE[1]), (ABOVE[0] + ((0, (0, 0)),), ABOVE[1])):
            self.fails(ROW, ASKED, TABLE + ((0, standing, True, None),))
            self.fails(ROW, ASKED, TABLE + ((0, standing, False, None),))

    def test_standings_that_may_not_stand(self):
        rows = (("way", "x", "y", 0), ("way", "z", "x", 0), ("and", 0, 1), ("some", "x", 0), ("some", "y", 3))
        table = judged(ROW, rows)[1]
        ring = ((DOT, (0, (0,)), (0, (1, 0))), (("x", 0), ("y", 1), ("z", 2)))
        row = ((DOT, (0, (0,)), (0, (0, 0))), (("x", 0), ("y", 1), ("z", 2)))
        for standing, told in ((ring, False), (row, True)):
            below = (((DOT, standing[0][1]), (("x", 0), ("y", 1))))
            entries = ((0, below, False, None), (2, standing, False, 0))
            self.assertIs(table_holds(ROW, rows, table + entries), told)

    def test_other_names_than_the_free_ones(self):
        for standing in (((DOT,), (("x", 0), ("z", 0))), ((DOT,), (("a", 0), ("y", 0))), ((DOT,), (("y", 0), ("y", 0))), ALONE,
                         NOBODY, ((DOT,), (("x", 0), ("y", 0), ("z", 0))), ((DOT,), ((0, 0), (1, 0))), ((DOT,), ((), ())),
                         ((DOT,), (("x", 0, 0), ("y", 0))), ((DOT,), "xy"), ("", BOTH[1]), (None, BOTH[1]), ((DOT,), None),
                         (DOT, BOTH[1]), (), None, "", [], (BOTH,), BOTH + ((),), BOTH[:1], True, 0):
            self.fails(ROW, ASKED, self.changed(0, 1, standing))
            self.fails(ROW, ASKED, self.changed(1, 1, standing))
            self.fails(ROW, ASKED, TABLE + ((0, standing, True, None),))

    def test_things_that_are_no_tables(self):
        for thing in NO_TUPLES + ((), ((),), (None,), ("",), TABLE[0], (TABLE,), ((TABLE[0][0],),), {}, TABLE + (None,), TABLE + ((),),
                                  TABLE + ("abcd",), TABLE + (TABLE[0] + (None,),), TABLE + (TABLE[0][:3],)):
            self.fails(ROW, ASKED, thing)

    def test_without_an_entry_for_the_last_row(self):
        rows = ASKED + (("not", 4),)
        self.fails(ROW, rows, TABLE)
        self.holds(ROW, rows, TABLE + ((5, NOBODY, False, None),))
        self.fails(ROW, rows, TABLE + ((5, NOBODY, True, None),))
        self.fails(ROW, rows, TABLE + ((5, NOBODY, False, 0),))

    def test_sentences_with_free_names(self):
        self.fails(ROW, ASKED[:-1], TABLE[:-1])
        self.fails(ROW, ASKED[:1], ((0, ABOVE, True, None),))

    def test_rules_that_dont_always_lay(self):
        for rule in (SPLIT, PENTAGON):
            for table in (TABLE, (), None, "", [], judged(GRAPH, ASKED)[1]):
                with self.assertRaises(NoRule) as caught:
                    table_holds(rule, ASKED, table)
                self.assertEqual(caught.exception.word, "lays")

    def test_nothing_is_found_that_isnt_told(self):
        # all is true, but only what the table tells counts
        self.fails(ROW, ASKED, TABLE[3:])
        self.fails(ROW, ASKED, TABLE[1:])


class Mixed(unittest.TestCase):
    def changes(self, chance, rule, sentence, table):
        """The table with one thing changed in it."""
        place = int(chance.random() * len(table))
        row, standing, truth, move = table[place]
        there = standings(rule, sorted(slow_free(sentence, row)))
        moves = [None, 0, 1, 2, True] + list(kept_wishes(rule, standing[0]))
        other = int(chance.random() * len(sentence))
        held = standings(rule, sorted(slow_free(sentence, other)))
        kind = int(chance.random() * 6)
        if kind == 0:
            entry = (row, standing, not truth, move)
        elif kind == 1:
            entry = (row, standing, truth, moves[int(chance.random() * len(moves))])
        elif kind == 2:
            entry = (row, there[int(chance.random() * len(there))], truth, move)
        elif kind == 3:
            more = (other, held[int(chance.random() * len(held))], chance.random() < 0.5, moves[int(chance.random() * len(moves))])
            return table + (more,)
        elif kind == 4:
            return table[:place] + table[place + 1:]
        else:
            entry = (other, standing, truth, move)
        return table[:place] + (entry,) + table[place + 1:]

    def test_changed_tables_against_the_words(self):
        chance = random.Random(5)
        told = []
        for seed in range(330):
            rule = RULES[seed % 7]
            sentence = mixed_sentence(rule, seed + 300, 5 + seed % 6, 0)
            table = judged(rule, sentence)[1]
            for times in range(4):
                changed = self.changes(chance, rule, sentence, table)
                told.append(table_holds(rule, sentence, changed))
                self.assertIs(told[-1], slow_holds(rule, sentence, changed))
                if told[-1]:
                    truths = [entry[2] for entry in changed if entry[0] == len(sentence) - 1 and entry[1] == NOBODY]
                    self.assertEqual(truths, [judged(rule, sentence)[0]])
        self.assertGreater(told.count(True), 40)
        self.assertGreater(told.count(False), 400)

    def whole_table(self, rule, sentence):
        """An entry for each row at each of its standings, with the last move by which it is so."""
        slow = SlowJudge(rule, sentence)
        entries = []
        for row in range(len(sentence)):
            for standing in standings(rule, sorted(slow_free(sentence, row))):
                truth = slow.at(row, standing)
                found = [move for move, part, there in slow.parts(row, standing) if slow.at(part, there) == truth]
                by_one = slow.shown(row, standing)[0] is not None
                entries.append((row, standing, truth, found[-1] if by_one else None))
        return tuple(entries)

    def test_all_entries_with_the_last_moves(self):
        for seed in range(33):
            rule = RULES[seed % len(RULES)]
            sentence = mixed_sentence(rule, seed + 50, 7, 0)
            table = self.whole_table(rule, sentence)
            self.assertIs(table_holds(rule, sentence, table), True)
            self.assertIs(table_holds(rule, sentence, table + table[:1]), False)

    def test_large_tables(self):
        for rule in (MIXED, COLOURS, NESTED):
            rows = [("way", "x", "y", 0), ("way", "y", "z", 1), ("way", "x", "z", 0), ("or", 0, 1), ("and", 2, 3)]
            while len(rows) < 37:
                rows.append((("and", "or")[len(rows) % 2], len(rows) - 1, len(rows) % 5))
            rows += [("not", 36), ("each", "z", 37), ("some", "y", 38), ("each", "x", 39)]
            table = self.whole_table(rule, tuple(rows))
            begun = time.perf_counter()
            self.assertIs(table_holds(rule, tuple(rows), table), True)
            self.assertLess(time.perf_counter() - begun, 4)

    def test_read_sentences(self):
        for text in ("each x each y (not x below y or some z (x below z and z below y))", "some x some y (x below y and y below x)",
                     "each x each y each z (not (x below y and y below z) or x below z)"):
            sentence = read_sentence(ROW, text)
            table = judged(ROW, sentence)[1]
            self.assertIs(table_holds(ROW, sentence, table), True)
            for place in range(len(table)):
                self.assertIs(table_holds(ROW, sentence, table[:place] + table[place + 1:]), False)


if __name__ == "__main__":
    unittest.main()
