"""Sentences judged by a rule that always lays, with the table that shows the truth told."""

from layworld.always import must_lay
from layworld.errors import NoSentence
from layworld.sentences import BINDING, PLAIN, all_free_names, free_names, part_rows
from layworld.standings import NOBODY, moved, moves_over, narrowed
from layworld.threes import barred_threes
from layworld.worlds import way

# the rows that are true by one true part, and those that are by all
BY_ONE = ("or", "some")
BY_ALL = ("and", "each")


class Judging:
    """A sentence that is judged by a rule, and by what each of its rows is judged at a standing."""

    def __init__(self, rule, sentence):
        self.rule = rule
        self.sentence = sentence
        self.free = all_free_names(sentence)
        self.barred = barred_threes(rule)
        # rows ask for the same moves again and again: by what was asked, the moves and the standings behind them
        self.kept = {}

    def trials(self, number, standing):
        """All (move, part, its standing) by which the row of this number is judged, in order.

        The parts of an and or or have their numbers 0 and 1 for moves, that of a not has 0.
        """
        row = self.sentence[number]
        if row[0] in BINDING:
            return [(move, row[2], there) for move, there in self.all_moved(standing, row[1], row[2])]
        parts = part_rows(row)
        return [(place, part, narrowed(self.rule, standing, self.free[part])) for place, part in enumerate(parts)]

    def all_moved(self, standing, name, part):
        """All moves that put the name, in order, each with the part's standing behind it."""
        names = self.free[part]
        asked = (standing, name, tuple(names))
        if asked not in self.kept:
            found = moves_over(self.rule, self.barred, standing)
            self.kept[asked] = [(move, moved(self.rule, standing, name, move, names)) for move in found]
        return self.kept[asked]


def judged(rule, sentence):
    """Whether the sentence is true, and the table that shows it; NoSentence where it has free names, then NoRule."""
    last = len(sentence) - 1
    if free_names(sentence, last):
        raise NoSentence(last)
    must_lay(rule)
    judging = Judging(rule, sentence)
    trials = all_trials(judging, [NOBODY])
    truths = all_truths(judging, trials)
    return (truths[last][NOBODY], shown_table(sentence, trials, truths))


def all_trials(judging, asked):
    """For each row a dict of its trials by standing, of all that the last row is judged by at the asked standings."""
    trials = [{} for row in judging.sentence]
    for standing in asked:
        trials[-1][standing] = []
    # parts stand ahead of a row: from the last one on, all that asks for a row comes ahead of it
    for number in range(len(trials) - 1, -1, -1):
        for standing in list(trials[number]):
            tried = judging.trials(number, standing)
            trials[number][standing] = tried
            for move, part, there in tried:
                trials[part][there] = []
    return trials


def all_truths(judging, trials):
    """For each row a dict of its truths by standing."""
    truths = []
    for row, asked in zip(judging.sentence, trials):
        found = {}
        for standing, tried in asked.items():
            parts = [truths[part][there] for move, part, there in tried]
            found[standing] = row_truth(judging.rule, row, standing, parts)
        truths.append(found)
    return truths


def row_truth(rule, row, standing, parts):
    """The truth of the row at the standing, by the truths of its trials."""
    if row[0] in PLAIN:
        return plain_truth(rule, row, standing)
    if row[0] in BY_ONE:
        return any(parts)
    if row[0] in BY_ALL:
        return all(parts)
    return not parts[0]


def plain_truth(rule, row, standing):
    """The truth of a same, mark or way, looked up in the standing."""
    world = standing[0]
    places = dict(standing[1])
    one = places[row[1]]
    if row[0] == "mark":
        return world[one][0] == row[2]
    other = places[row[2]]
    if row[0] == "same":
        return one == other
    return one != other and way(rule, world, one, other) == row[3]


def shown_table(sentence, trials, truths):
    """The table that shows the truth of the last row at the standing of no names."""
    needed = [{} for row in sentence]
    needed[-1][NOBODY] = True
    entries = []
    for number in range(len(sentence) - 1, -1, -1):
        for standing in list(needed[number]):
            truth = truths[number][standing]
            tried = trials[number][standing]
            move = None
            if is_shown_by_one(sentence[number], truth):
                tried = [trial for trial in tried if truths[trial[1]][trial[2]] == truth][:1]
                move = tried[0][0]
            entries.append((number, standing, truth, move))
            for trial in tried:
                needed[trial[1]][trial[2]] = True
    return tuple(sorted(entries))


def is_shown_by_one(row, truth):
    """Whether one part of the row is enough to show its truth."""
    return row[0] in BY_ONE and truth or row[0] in BY_ALL and not truth
