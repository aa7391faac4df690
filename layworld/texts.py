"""Rules and worlds as texts: how they are written and read."""

from layworld.errors import BadText
from layworld.parts import least_form
from layworld.rules import MOST_MARKS, has_right_names, keeps_bounds

PARTING = " ; "
BAR = "bar "


def show_rule(rule):
    """The rule, written in rows."""
    rows = [" ".join(["marks"] + list(rule[0])), " ".join(["ways"] + way_words(rule))]
    return "\n".join(rows + [BAR + show_world(rule, figure) for figure in rule[2]])


def way_words(rule):
    """The words for the ways: a name, or the names of two that are each other's way back."""
    words = []
    for number, pair in enumerate(rule[1]):
        if pair[1] == number:
            words.append(pair[0])
        if pair[1] > number:
            words.append(pair[0] + "/" + rule[1][pair[1]][0])
    return words


def show_world(rule, world):
    """The world, written in one row."""
    return PARTING.join([point_text(rule, point) for point in world])


def point_text(rule, point):
    """The point, written: its mark, then its ways."""
    return " ".join([rule[0][point[0]]] + [rule[1][number][0] for number in point[1]])


def read_rule(text):
    """The rule that the text writes, else BadText with the first wrong row."""
    if not isinstance(text, str):
        raise BadText(0)
    rows = text.split("\n")
    marks = read_marks(rows[0])
    if len(rows) == 1:
        raise BadText(1)
    rule = (marks, read_ways(rows[1]), ())
    if not keeps_bounds(rule) or not has_right_names(rule):
        raise BadText(1)
    return (rule[0], rule[1], tuple(sorted(read_bars(rule, rows))))


def read_marks(row):
    """The names of the marks that the row writes."""
    words = row.split(" ")
    marks = tuple(words[1:])
    if words[0] != "marks" or not 1 <= len(marks) <= MOST_MARKS or not has_right_names((marks, (), ())):
        raise BadText(0)
    return marks


def read_ways(row):
    """The ways that the row writes, whatever their names are."""
    words = row.split(" ")
    if words[0] != "ways":
        raise BadText(1)
    ways = []
    for word in words[1:]:
        names = word.split("/")
        first = len(ways)
        if len(names) == 1:
            ways.append((word, first))
        elif len(names) == 2:
            ways.extend([(names[0], first + 1), (names[1], first)])
        else:
            raise BadText(1)
    return tuple(ways)


def read_bars(rule, rows):
    """The figures of the threes that the rows behind the first two bar, in their order."""
    barred = []
    for number, row in enumerate(rows):
        if number >= 2:
            figure = read_bar(rule, row, number)
            if figure in barred:
                raise BadText(number)
            barred.append(figure)
    return barred


def read_bar(rule, row, number):
    """The figure of the three that the row of this number bars."""
    if not row.startswith(BAR):
        raise BadText(number)
    three = read_points(rule, row[len(BAR):], number)
    if len(three) != 3:
        raise BadText(number)
    return least_form(rule, three)


def read_world(rule, text):
    """The world that the text writes, else BadText, row 0."""
    if not isinstance(text, str):
        raise BadText(0)
    return read_points(rule, text, 0)


def read_points(rule, text, row):
    """The world that the text writes, else BadText with this row."""
    if text == "":
        return ()
    return tuple([read_point(rule, piece, ahead, row) for ahead, piece in enumerate(text.split(PARTING))])


def read_point(rule, text, ahead, row):
    """The point that the text writes, with so many points ahead, else BadText with this row."""
    words = text.split(" ")
    names = [pair[0] for pair in rule[1]]
    there = words[0] in rule[0] and all([word in names for word in words[1:]])
    if not there or len(words) != ahead + 1:
        raise BadText(row)
    return (rule[0].index(words[0]), tuple([names.index(word) for word in words[1:]]))
