"""What one function tells is handed on to the others, and agrees, over rules of each kind."""

import itertools
import unittest

from layworld.always import is_put_on, is_unlaid, put_on, unlaid
from layworld.counts import told_worlds, unlike_worlds
from layworld.desk import answer
from layworld.errors import NoLaying, NoRule
from layworld.fillings import barred_by, fillings
from layworld.growth import Growth
from layworld.judge import judged
from layworld.laying import laid
from layworld.likes import in_common, likenesses
from layworld.matching import Matching
from layworld.parts import figures, least_form, part
from layworld.rules import look_rule
from layworld.sentences import free_names, look_sentence
from layworld.sentencetexts import read_sentence, show_sentence
from layworld.standings import moved, moves, standings
from layworld.tables import table_holds
from layworld.texts import read_rule, read_world, show_rule, show_world
from layworld.threes import first_barred, wishes
from layworld.unbound import holds_at, unbound
from layworld.worlds import look_world
from tests.samples import (
    BARRED, BESIDE, COLOURED_ROW, NESTED, PENTAGON, PLAIN, RINGED, all_shapes, mixed_bars, mixed_sentence, slow_least_form,
    some_standing,
)

MANY = tuple(mixed_bars(shape, seed, 8 + 4 * seed) for seed, shape in enumerate(all_shapes()))
RULES = PLAIN + BARRED + (BESIDE, NESTED, COLOURED_ROW, RINGED, PENTAGON) + tuple(all_shapes()) + MANY
LAYING = tuple(rule for rule in RULES if unlaid(rule) is None)
NOT_LAYING = tuple(rule for rule in RULES if unlaid(rule) is not None)


class Whole(unittest.TestCase):
    def test_there_are_rules_of_both_kinds(self):
        self.assertGreater(len(LAYING), 25)
        self.assertGreater(len(NOT_LAYING), 5)

    def test_rules_and_figures(self):
        for rule in RULES:
            self.assertIs(look_rule(rule), True)
            self.assertEqual(read_rule(show_rule(rule)), rule)
            every = (rule[0], rule[1], tuple(figures(rule)))
            self.assertIs(look_rule(every), True)
            self.assertEqual(read_rule(show_rule(every)), every)
            self.assertEqual(sorted(unlike_worlds((rule[0], rule[1], ()), 3)), figures(rule))

    def test_worlds_are_laid_over_any_part_that_they_share(self):
        for rule in LAYING:
            for seed in range(4):
                one = some_standing(rule, 4, seed)
                other = some_standing(rule, 4, seed + 60)
                common = in_common(rule, one, other)
                for size in range(len(common) + 1):
                    self.laid_rightly(rule, one, other, common[:size])

    def laid_rightly(self, rule, one, other, pairs):
        world, places = laid(rule, one, other, pairs)
        self.assertIs(look_world(rule, world), True)
        self.assertIsNone(first_barred(rule, world))
        self.assertEqual(world[:len(one)], one)
        self.assertEqual(part(rule, world, places), other)
        self.assertEqual([places[theirs] for ours, theirs in pairs], [ours for ours, theirs in pairs])
        self.assertIn(places, likenesses(rule, other, world))
        row = f"lay {show_world(rule, one)} | {show_world(rule, other)} | " + " ".join(f"{i}-{j}" for i, j in pairs)
        told = answer(show_rule(rule), row)
        self.assertEqual(told, show_world(rule, world) + " | " + " ".join(map(str, places)))

    def test_what_cant_be_laid_is_shown(self):
        for rule in NOT_LAYING:
            base, one, other = unlaid(rule)
            self.assertTrue(is_unlaid(rule, (base, one, other)) and is_put_on(rule, (base, one, other)))
            self.assertTrue(one in wishes(rule, base) and other in wishes(rule, base))
            self.assertEqual(fillings(rule, base, one, other), [])
            self.assertNotIn(None, barred_by(rule, base, one, other))
            pairs = tuple((point, point) for point in range(len(base)))
            with self.assertRaises(NoLaying) as caught:
                laid(rule, base + (one,), base + (other,), pairs)
            self.assertEqual((caught.exception.one, caught.exception.other), (len(base), len(base)))
            for asked in (lambda: Growth(rule, tuple(range(len(rule[1])))), lambda: judged(rule, (("same", "x", "x"), ("some", "x", 0))),
                          lambda: holds_at(rule, (("same", "x", "x"),)), lambda: table_holds(rule, (), ())):
                with self.assertRaises(NoRule):
                    asked()

    def test_wishes_are_met_and_stay_met(self):
        for rule in LAYING:
            growth = Growth(rule, tuple(range(len(rule[1])))[::-1])
            met = []
            while growth.steps() < 25 and growth.next_wish() is not None:
                asked = growth.next_wish()
                told = growth.step()
                self.assertEqual(told[0], asked)
                met.append(told)
            world = growth.world()
            self.assertIsNone(first_barred(rule, world))
            for (points, mark, ways), point in met:
                self.assertEqual(part(rule, world, points + (point,))[-1], (mark, ways))
                self.assertIn((mark, ways), wishes(rule, part(rule, world, points)))
                self.assertEqual(growth.wish(points, mark, ways), point)
            self.assertEqual(growth.world(), world)
            if len(met) >= 20:
                text = answer(show_rule(rule), "grow 20")
                self.assertIsNone(first_barred(rule, read_world(rule, text)))

    def test_growths_are_matched_either_way(self):
        for rule in LAYING:
            one = Growth(rule, tuple(range(len(rule[1]))))
            other = Growth(rule, tuple(range(len(rule[1])))[::-1])
            for step in range(5):
                one.step()
                other.step()
            matching = Matching(one, other, in_common(rule, one.world()[:4], other.world()[:4]))
            for step in range(4):
                matching.step()
                pairs = matching.pairs()
                ours = part(rule, one.world(), [pair[0] for pair in pairs])
                self.assertEqual(ours, part(rule, other.world(), [pair[1] for pair in pairs]))
            self.assertIn(len(pairs), range(4, 13) if len(one.world()) > 3 else range(1, 5))

    def test_sentences_are_judged_and_looked_at(self):
        for number, rule in enumerate(LAYING):
            for seed in range(3):
                sentence = mixed_sentence(rule, 37 * number + seed, 9, 0)
                self.assertIs(look_sentence(rule, sentence), True)
                truth, table = judged(rule, sentence)
                self.assertIs(table_holds(rule, sentence, table), True)
                text = show_sentence(rule, sentence)
                read = read_sentence(rule, text)
                self.assertIs(judged(rule, read)[0], truth)
                self.assertEqual(answer(show_rule(rule), "judge " + text), "true" if truth else "untrue")
                turned = sentence + (("not", len(sentence) - 1),)
                self.assertIs(judged(rule, turned)[0], not truth)
                self.assertIs(table_holds(rule, turned, judged(rule, turned)[1]), True)
                for row, standing, held, move in table:
                    self.assertIn(standing, standings(rule, free_names(sentence, row)))

    def test_moves_lead_to_standings(self):
        for rule in RULES:
            for standing in standings(rule, ["x"]):
                found = [moved(rule, standing, "y", move, ["x", "y"]) for move in moves(rule, standing)]
                there = [held for held in standings(rule, ["x", "y"]) if held[0][:1] == standing[0]]
                self.assertEqual(sorted(found), there)

    def test_what_is_said_of_points_is_said_without_bound_ones(self):
        for number, rule in enumerate(LAYING):
            sentence = mixed_sentence(rule, 53 * number, 9, 2)
            last = len(sentence) - 1
            names = free_names(sentence, last)
            if names:
                plain = unbound(rule, sentence)
                end = len(plain) - 1
                self.assertEqual(holds_at(rule, plain), holds_at(rule, sentence))
                # both say the same of all points: a sentence that says so is true
                both = sentence + tuple(self.shifted(row, last + 1) for row in plain)
                same = self.same_truth(both, last, last + 1 + end)
                for name in names:
                    same = same + (("each", name, len(same) - 1),)
                self.assertIs(judged(rule, same)[0], True)

    def shifted(self, row, ahead):
        if row[0] in ("not", "and", "or"):
            return (row[0],) + tuple(number + ahead for number in row[1:])
        return row

    def same_truth(self, rows, one, other):
        first = len(rows)
        return rows + (("not", one), ("not", other), ("and", one, other), ("and", first, first + 1), ("or", first + 2, first + 3))

    def test_unlike_worlds_are_told_once(self):
        for rule in RULES:
            told = unlike_worlds(rule, 3)
            self.assertEqual([least_form(rule, world) for world in told], told)
            self.assertTrue(all(first_barred(rule, world) is None for world in told))
            self.assertEqual(sorted(set(figures(rule)) - set(rule[2])), told)
            self.assertEqual(answer(show_rule(rule), "count 3"), str(len(told)))
            for seed in range(5):
                world = some_standing(rule, 3, seed)
                if len(world) == 3:
                    like = [held for held in told if likenesses(rule, world, held)]
                    self.assertEqual(like, [least_form(rule, world)])

    def test_texts_of_what_is_told(self):
        for rule in RULES:
            for world in unlike_worlds(rule, 3) + [some_standing(rule, 5, 1)]:
                self.assertEqual(read_world(rule, show_world(rule, world)), world)
                self.assertEqual(answer(show_rule(rule), "may " + show_world(rule, world)), "yes")
            for three in rule[2]:
                self.assertEqual(answer(show_rule(rule), "may " + show_world(rule, three)), "no 0 1 2")


class OtherNames(unittest.TestCase):
    def renamed(self, rule):
        marks = tuple("qrs"[number] + "x" * number for number in range(len(rule[0])))
        return (marks, tuple(("uvw"[number] + "yyyyyyy", pair[1]) for number, pair in enumerate(rule[1])), rule[2])

    def test_the_same_is_told(self):
        for number, rule in enumerate(RULES):
            other = self.renamed(rule)
            self.assertEqual((unlaid(other), put_on(other), figures(other)), (unlaid(rule), put_on(rule), figures(rule)))
            self.assertEqual((unlike_worlds(other, 3), told_worlds(other, 3)), (unlike_worlds(rule, 3), told_worlds(rule, 3)))
            self.assertEqual(standings(other, ["x", "y"]), standings(rule, ["x", "y"]))
            world = some_standing(rule, 4, number)
            self.assertEqual(wishes(other, world), wishes(rule, world))
            words = dict(zip(rule[0] + tuple(pair[0] for pair in rule[1]), other[0] + tuple(pair[0] for pair in other[1])))
            text = show_world(rule, world)
            self.assertEqual(show_world(other, world), " ".join(words.get(word, word) for word in text.split(" ")))
            if rule in LAYING:
                sentence = mixed_sentence(rule, number, 9, 0)
                self.assertEqual(judged(other, sentence), judged(rule, sentence))
                self.assertEqual(self.grown(other), self.grown(rule))

    def grown(self, rule):
        growth = Growth(rule, tuple(range(len(rule[1]))))
        return [growth.step() for step in range(15)] + [growth.world()]


class OtherNumbers(unittest.TestCase):
    def renumberings(self, rule):
        """All ways to number marks and ways otherwise by which ways back still stand side by side."""
        for marks in itertools.permutations(range(len(rule[0]))):
            for ways in itertools.permutations(range(len(rule[1]))):
                if all(abs(ways[number] - ways[pair[1]]) <= 1 for number, pair in enumerate(rule[1])):
                    yield marks, ways

    def point(self, numbers, point):
        return (numbers[0][point[0]], tuple(numbers[1][number] for number in point[1]))

    def world(self, numbers, world):
        return tuple(self.point(numbers, point) for point in world)

    def rule(self, numbers, rule):
        marks = [None] * len(rule[0])
        ways = [None] * len(rule[1])
        for number, name in enumerate(rule[0]):
            marks[numbers[0][number]] = name
        for number, (name, back) in enumerate(rule[1]):
            ways[numbers[1][number]] = (name, numbers[1][back])
        bare = (tuple(marks), tuple(ways), ())
        return bare[:2] + (tuple(sorted(slow_least_form(bare, self.world(numbers, figure)) for figure in rule[2])),)

    def sentence(self, numbers, sentence):
        rows = []
        for row in sentence:
            if row[0] == "mark":
                row = row[:2] + (numbers[0][row[2]],)
            if row[0] == "way":
                row = row[:3] + (numbers[1][row[3]],)
            rows.append(row)
        return tuple(rows)

    def each(self, rules):
        for seed, rule in enumerate(rules):
            for numbers in list(self.renumberings(rule))[1::3]:
                yield seed, rule, numbers, self.rule(numbers, rule)

    def test_rules(self):
        for seed, rule, numbers, other in self.each(RULES):
            self.assertIs(look_rule(other), True)
            self.assertEqual((unlaid(other) is None, put_on(other) is None), (unlaid(rule) is None, put_on(rule) is None))
            for told, looked in ((unlaid(rule), is_unlaid), (put_on(rule), is_put_on)):
                if told is not None:
                    base, one, two = told
                    turned = (self.world(numbers, base), self.point(numbers, one), self.point(numbers, two))
                    self.assertIs(looked(other, turned), True)

    def test_worlds(self):
        for seed, rule, numbers, other in self.each(RULES):
            world = some_standing(rule, 4, seed)
            more = some_standing(rule, 3, seed + 40)
            there = self.world(numbers, world)
            self.assertIsNone(first_barred(other, there))
            self.assertEqual(wishes(other, there), sorted(self.point(numbers, wish) for wish in wishes(rule, world)))
            self.assertEqual(likenesses(other, self.world(numbers, more), there), likenesses(rule, more, world))
            self.assertEqual(in_common(other, self.world(numbers, more), there), in_common(rule, more, world))
            # the way of point 1 to point 0 is told of both, whichever number it has
            self.assertEqual(part(other, there, (2, 0))[1][1] if len(world) > 2 else (),
                             tuple(numbers[1][way] for way in part(rule, world, (2, 0))[1][1]) if len(world) > 2 else ())

    def test_fillings(self):
        for seed, rule, numbers, other in self.each(RULES):
            base = some_standing(rule, 2, seed)
            for one, two in itertools.product(wishes(rule, base)[::3], repeat=2):
                told = fillings(rule, base, one, two)
                there = [numbers[1][way] if way >= 0 else 9 for way in told]
                asked = (self.world(numbers, base), self.point(numbers, one), self.point(numbers, two))
                self.assertEqual([way if way >= 0 else 9 for way in fillings(other, *asked)], sorted(there))

    def test_counts(self):
        for seed, rule, numbers, other in self.each(RULES):
            for n in range(4):
                self.assertEqual(told_worlds(other, n), told_worlds(rule, n))
                there = sorted(least_form(other, self.world(numbers, world)) for world in unlike_worlds(rule, n))
                self.assertEqual(unlike_worlds(other, n), there)

    def test_growths(self):
        for seed, rule, numbers, other in self.each(LAYING):
            order = tuple(range(len(rule[1])))
            one = Growth(rule, order)
            two = Growth(other, tuple(numbers[1][way] for way in order))
            for step in range(12):
                told = one.step()
                if told is not None:
                    points, mark, ways = told[0]
                    wish = self.point(numbers, (mark, ways))
                    self.assertEqual(two.wish(points, wish[0], wish[1]), told[1])
                self.assertEqual(two.world(), self.world(numbers, one.world()))

    def test_layings(self):
        for seed, rule, numbers, other in self.each(LAYING):
            one = some_standing(rule, 3, seed)
            more = some_standing(rule, 3, seed + 9)
            common = in_common(rule, one, more)
            world, places = laid(other, self.world(numbers, one), self.world(numbers, more), common)
            self.assertIsNone(first_barred(other, world))
            self.assertEqual(part(other, world, places), self.world(numbers, more))

    def test_sentences(self):
        for seed, rule, numbers, other in self.each(LAYING):
            sentence = mixed_sentence(rule, seed + 5, 9, 0)
            there = self.sentence(numbers, sentence)
            truth, table = judged(other, there)
            self.assertIs(truth, judged(rule, sentence)[0])
            # the table of the one holds for the other, renumbered
            turned = []
            for row, standing, held, move in judged(rule, sentence)[1]:
                move = self.point(numbers, move) if isinstance(move, tuple) else move
                turned.append((row, (self.world(numbers, standing[0]), standing[1]), held, move))
            self.assertIs(table_holds(other, there, tuple(turned)), True)
            self.assertEqual(show_sentence(other, there), show_sentence(rule, sentence))

    def test_standings_and_where_sentences_hold(self):
        for seed, rule, numbers, other in self.each(LAYING):
            there = sorted((self.world(numbers, world), places) for world, places in standings(rule, ["x", "y"]))
            self.assertEqual(standings(other, ["x", "y"]), there)
            sentence = mixed_sentence(rule, seed + 70, 8, 2)
            if free_names(sentence, len(sentence) - 1):
                turned = sorted((self.world(numbers, world), places) for world, places in holds_at(rule, sentence))
                self.assertEqual(holds_at(other, self.sentence(numbers, sentence)), turned)
                self.assertEqual(holds_at(other, unbound(other, self.sentence(numbers, sentence))), turned)


if __name__ == "__main__":
    unittest.main()
