"""Sentences with free names: where they hold, and what they say without bound names."""

from layworld.always import must_lay
from layworld.judge import Judging, all_trials, all_truths
from layworld.sentences import free_names
from layworld.standings import standings


def holds_at(rule, sentence):
    """All standings of its free names at which the sentence holds, sorted; NoRule where the rule doesn't always lay."""
    must_lay(rule)
    asked = standings(rule, free_names(sentence, len(sentence) - 1))
    judging = Judging(rule, sentence)
    truths = all_truths(judging, all_trials(judging, asked))
    return [standing for standing in asked if truths[-1][standing]]


def unbound(rule, sentence):
    """A sentence of the same one or two free names, without some and each, that holds at just the same standings."""
    held = holds_at(rule, sentence)
    names = free_names(sentence, len(sentence) - 1)
    other = [standing for standing in standings(rule, names) if standing not in held]
    # told by the fewer ones it stays within forty rows
    if len(held) <= len(other):
        return tuple(rows_for(names, held))
    rows = rows_for(names, other)
    return tuple(rows + [("not", len(rows) - 1)])


def rows_for(names, held):
    """Rows, without some and each, of which the last one holds at just these standings."""
    if not held:
        return untrue_rows(names)
    rows = []
    told = []
    for standing in held:
        facts = [shared_row(rows, fact) for fact in facts_of(standing)]
        told.append(joined_row(rows, "and", facts))
    joined_row(rows, "or", told)
    return rows


def untrue_rows(names):
    """Rows of just these one or two names of which the last one holds nowhere."""
    return [("same", names[0], names[-1]), ("not", 0), ("and", 0, 1)]


def facts_of(standing):
    """Rows that hold, all of them, at this standing of the names alone."""
    facts = []
    # the name by which each point came up
    first = []
    for name, point in standing[1]:
        if point < len(first):
            facts.append(("same", first[point], name))
        else:
            mark = standing[0][point][0]
            ways = standing[0][point][1]
            facts.append(("mark", name, mark))
            facts.extend([("way", name, other, number) for other, number in zip(first, ways)])
            first.append(name)
    return facts


def joined_row(rows, word, numbers):
    """The number of the row that joins the rows of these numbers by the word; added are those that aren't there."""
    joined = numbers[0]
    for number in numbers[1:]:
        joined = shared_row(rows, (word, joined, number))
    return joined


def shared_row(rows, row):
    """The number of the row; it is added where it isn't there."""
    if row not in rows:
        rows.append(row)
    return rows.index(row)
