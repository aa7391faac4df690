"""Sentences: how one is looked at by a rule, and the free names of its rows."""

from layworld.errors import NoSentence
from layworld.kinds import is_whole
from layworld.rules import is_name

LONGEST_POINT_NAME = 3
MOST_FREE_NAMES = 3
PLAIN = ("same", "mark", "way")
BINDING = ("some", "each")
# what stands behind each word of a row: x a name, m a mark, w a way, i a row ahead
FORMS = {
    "same": "xx",
    "mark": "xm",
    "way": "xxw",
    "not": "i",
    "and": "ii",
    "or": "ii",
    "some": "xi",
    "each": "xi",
}


def look_sentence(rule, thing):
    """True where the thing is a sentence of the rule's marks and ways, else NoSentence with the first wrong row."""
    if not isinstance(thing, tuple) or not thing:
        raise NoSentence(0)
    free = []
    for number, row in enumerate(thing):
        if not is_row(rule, row, number):
            raise NoSentence(number)
        free.append(names_of(row, free))
        if len(free[number]) > MOST_FREE_NAMES:
            raise NoSentence(number)
    return True


def is_row(rule, thing, ahead):
    """Whether it is a row of a sentence with so many rows ahead, however many free names it has."""
    if not isinstance(thing, tuple) or not thing:
        return False
    # a thing that is no text can't always be looked up
    if not isinstance(thing[0], str) or thing[0] not in FORMS:
        return False
    form = FORMS[thing[0]]
    if len(thing) != len(form) + 1:
        return False
    bounds = {"m": len(rule[0]), "w": len(rule[1]), "i": ahead}
    return all([is_field(field, kind, bounds) for field, kind in zip(thing[1:], form)])


def is_field(thing, kind, bounds):
    """Whether it is a name, or a number within its kind's bound."""
    if kind == "x":
        return is_point_name(thing)
    return is_whole(thing) and 0 <= thing < bounds[kind]


def is_point_name(thing):
    """Whether it is a name for a point."""
    return isinstance(thing, str) and len(thing) <= LONGEST_POINT_NAME and is_name(thing)


def free_names(sentence, row):
    """The free names of the row of this number, sorted."""
    return list(all_free_names(sentence[:row + 1])[row])


def all_free_names(sentence):
    """For each row its free names, sorted."""
    # rows are shared: gone through from the first one, each is looked at but once
    free = []
    for row in sentence:
        free.append(names_of(row, free))
    return free


def names_of(row, free):
    """The free names of the row, by those of all rows ahead, sorted."""
    if row[0] in PLAIN:
        names = [field for field, kind in zip(row[1:], FORMS[row[0]]) if kind == "x"]
    else:
        names = []
        for number in part_rows(row):
            names.extend(free[number])
    if row[0] in BINDING:
        names = [name for name in names if name != row[1]]
    return sorted(set(names))


def part_rows(row):
    """The numbers of the rows that are the row's parts, in order."""
    return [field for field, kind in zip(row[1:], FORMS[row[0]]) if kind == "i"]
