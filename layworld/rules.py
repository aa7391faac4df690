"""Rules: how one is looked at, and the way back of a way."""

from layworld.errors import NoRule
from layworld.kinds import is_tuple_of, is_whole
from layworld.parts import least_form
from layworld.worlds import has_point_form, is_point

LETTERS = "abcdefghijklmnopqrstuvwxyz"
LONGEST_NAME = 8
WORDS = ("marks", "ways", "bar", "some", "each", "not", "and", "or", "is")
MOST_MARKS = 3
MOST_WAYS = 3
MOST_TOGETHER = 6


def look_rule(thing):
    """True where the thing is a rule, else NoRule with the first word that is due."""
    if not has_form(thing):
        raise NoRule("form")
    if not keeps_bounds(thing):
        raise NoRule("bounds")
    if not has_right_names(thing):
        raise NoRule("names")
    if not has_right_backs(thing):
        raise NoRule("backs")
    if not has_right_barred(thing):
        raise NoRule("barred")
    return True


def back(rule, way):
    """The number of the way back of this way."""
    return rule[1][way][1]


def has_form(thing):
    """Whether it has the form of a rule, whatever its texts and numbers are."""
    if not is_tuple_of(thing, 3) or not all([isinstance(field, tuple) for field in thing]):
        return False
    texts = all([isinstance(name, str) for name in thing[0]])
    return texts and all([is_way(pair) for pair in thing[1]]) and all([is_three(three) for three in thing[2]])


def is_way(thing):
    """Whether it has the form of a way of a rule."""
    return is_tuple_of(thing, 2) and isinstance(thing[0], str) and is_whole(thing[1])


def is_three(thing):
    """Whether it has the form of a world of three points."""
    return is_tuple_of(thing, 3) and all([has_point_form(point, ahead) for ahead, point in enumerate(thing)])


def keeps_bounds(rule):
    """Whether its marks and ways are as many as they may be."""
    marks = len(rule[0])
    ways = len(rule[1])
    return 1 <= marks <= MOST_MARKS and 1 <= ways <= MOST_WAYS and marks * ways <= MOST_TOGETHER


def has_right_names(rule):
    """Whether all its names are such, and unlike."""
    names = list(rule[0]) + [pair[0] for pair in rule[1]]
    return all([is_name(name) for name in names]) and len(set(names)) == len(names)


def is_name(text):
    """Whether the text is a name for a mark or a way."""
    if text in WORDS or not 1 <= len(text) <= LONGEST_NAME:
        return False
    return all([sign in LETTERS for sign in text])


def has_right_backs(rule):
    """Whether each way has itself or a neighbour for its way back, whose way back it is."""
    return all([is_right_back(rule, number) for number in range(len(rule[1]))])


def is_right_back(rule, number):
    """Whether the way of this number has such a way back."""
    other = back(rule, number)
    if not 0 <= other < len(rule[1]):
        return False
    return abs(other - number) <= 1 and back(rule, other) == number


def has_right_barred(rule):
    """Whether its barred threes are figures of the rule, sorted and none twice."""
    barred = rule[2]
    rising = all([one < other for one, other in zip(barred, barred[1:])])
    return rising and all([is_figure(rule, three) for three in barred])


def is_figure(rule, three):
    """Whether the three is of the rule's marks and ways, in its least form."""
    if not all([is_point(rule, point, ahead) for ahead, point in enumerate(three)]):
        return False
    return least_form(rule, three) == three
