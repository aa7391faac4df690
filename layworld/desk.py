"""The desk: a rule's text and a row that asks are answered with a text."""

from layworld.always import put_on, unlaid
from layworld.counts import unlike_worlds, written_worlds
from layworld.errors import NoLaying, NoRow, NoWorld
from layworld.growth import Growth
from layworld.judge import judged
from layworld.laying import laid
from layworld.sentencetexts import read_sentence
from layworld.texts import point_text, read_rule, read_world, show_world
from layworld.threes import first_barred

FIGURES = "0123456789"
MOST_FIGURES = 9
MOST_STEPS = 20
MOST_COUNTED = 4
MOST_WRITTEN = 1000
PIECES = " | "


def answer(text, row):
    """What the desk answers to the row, by the rule that the text writes."""
    rule = read_rule(text)
    if not isinstance(row, str):
        raise NoRow()
    if row == "lays":
        return unfilled_text(rule, "never", unlaid(rule))
    if row == "apart":
        return unfilled_text(rule, "not", put_on(rule))
    parted = row.partition(" ")
    if not parted[1]:
        raise NoRow()
    if parted[0] == "may":
        return may_text(rule, parted[2])
    if parted[0] == "grow":
        return grown_text(rule, read_number(parted[2]))
    if parted[0] == "judge":
        return judged_text(rule, parted[2])
    if parted[0] == "count":
        return counted_text(rule, read_number(parted[2]))
    if parted[0] == "lay":
        return laid_text(rule, parted[2].split(PIECES))
    raise NoRow()


def unfilled_text(rule, word, found):
    """Always, or the word and what was found without a filling."""
    if found is None:
        return "always"
    pieces = [show_world(rule, found[0]), point_text(rule, found[1]), point_text(rule, found[2])]
    return word + " " + PIECES.join(pieces)


def may_text(rule, text):
    """Whether the world that the text writes may stand, else its first barred three."""
    three = first_barred(rule, read_world(rule, text))
    if three is None:
        return "yes"
    return "no " + numbers_text(three)


def numbers_text(numbers):
    """The numbers, parted by blanks."""
    return " ".join([str(number) for number in numbers])


def grown_text(rule, number):
    """The world behind so many steps, or how many were done at its end and the world there."""
    if number > MOST_STEPS:
        raise NoRow()
    growth = Growth(rule, tuple(range(len(rule[1]))))
    while growth.steps() < number:
        if growth.step() is None:
            return "end " + str(growth.steps()) + " " + show_world(rule, growth.world())
    return show_world(rule, growth.world())


def judged_text(rule, text):
    """Whether the sentence that the text writes is true."""
    return "true" if judged(rule, read_sentence(rule, text))[0] else "untrue"


def counted_text(rule, number):
    """How many unlike worlds of so many points may stand."""
    if number > MOST_COUNTED or written_worlds(rule, number) > MOST_WRITTEN:
        raise NoRow()
    return str(len(unlike_worlds(rule, number)))


def laid_text(rule, pieces):
    """The laid world and the places, by the texts of two worlds and of pairs; or the points that can't be laid."""
    if len(pieces) != 3:
        raise NoRow()
    pairs = read_pairs(pieces[2])
    worlds = [read_world(rule, piece) for piece in pieces[:2]]
    for world in worlds:
        three = first_barred(rule, world)
        if three is not None:
            raise NoWorld(three[-1])
    try:
        told = laid(rule, worlds[0], worlds[1], pairs)
    except NoLaying as refused:
        return "none " + numbers_text([refused.one, refused.other])
    return show_world(rule, told[0]) + PIECES + numbers_text(told[1])


def read_pairs(text):
    """The pairs of numbers that the text writes, else NoRow."""
    if text == "":
        return ()
    return tuple([read_pair(word) for word in text.split(" ")])


def read_pair(word):
    """The pair of numbers that the word writes, else NoRow."""
    numbers = word.split("-")
    if len(numbers) != 2:
        raise NoRow()
    return (read_number(numbers[0]), read_number(numbers[1]))


def read_number(text):
    """The number that the text writes, else NoRow."""
    if not 1 <= len(text) <= MOST_FIGURES or not all([sign in FIGURES for sign in text]):
        raise NoRow()
    if text[0] == "0" and text != "0":
        raise NoRow()
    return int(text)
