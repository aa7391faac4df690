"""Tables that show the truth of a sentence, looked at without finding anything."""

from layworld.always import must_lay
from layworld.judge import Judging, is_shown_by_one, row_truth
from layworld.kinds import is_tuple_of, is_whole
from layworld.standings import NOBODY, is_standing
from layworld.worlds import is_point


def table_holds(rule, sentence, table):
    """Whether the table, whatever it is, holds for the sentence; NoRule where the rule doesn't always lay."""
    must_lay(rule)
    judging = Judging(rule, sentence)
    if not isinstance(table, tuple) or not all([is_entry(judging, entry) for entry in table]):
        return False
    truths = dict([((entry[0], entry[1]), entry[2]) for entry in table])
    if len(truths) != len(table) or (len(sentence) - 1, NOBODY) not in truths:
        return False
    return all([is_shown(judging, entry, truths) for entry in table])


def is_entry(judging, thing):
    """Whether it has the form of an entry, for a row and a standing that there are."""
    if not is_tuple_of(thing, 4) or not is_whole(thing[0]) or not isinstance(thing[2], bool):
        return False
    if not 0 <= thing[0] < len(judging.sentence):
        return False
    return is_standing(judging.rule, judging.barred, thing[1], judging.free[thing[0]])


def is_shown(judging, entry, truths):
    """Whether the entry is shown by the truths that the table tells of rows and standings."""
    row = judging.sentence[entry[0]]
    tried = judging.trials(entry[0], entry[1])
    if is_shown_by_one(row, entry[2]):
        found = [truths.get(trial[1:]) for trial in tried if trial[0] == entry[3]]
        return is_move(judging.rule, entry[3], len(entry[1][0])) and entry[2] in found
    parts = [truths.get(trial[1:]) for trial in tried]
    if entry[3] is not None or None in parts:
        return False
    return row_truth(judging.rule, row, entry[1], parts) == entry[2]


def is_move(rule, thing, size):
    """Whether it has the form of a move over so many points, or of a part's number."""
    # without this a truth would pass for 0 or 1
    return is_whole(thing) or is_point(rule, thing, size)
