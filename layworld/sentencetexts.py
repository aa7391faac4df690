"""Sentences as texts: how they are written and read."""

from layworld.errors import BadText, NoSentence
from layworld.sentences import BINDING, look_sentence, part_rows


def show_sentence(rule, sentence):
    """The sentence, written in one text."""
    last = len(sentence) - 1
    used = used_rows(sentence)
    texts = {}
    for number in range(len(sentence)):
        # the text of a row that isn't used may be of any length
        if number in used:
            texts[number] = row_text(rule, sentence[number], texts)
    return texts[last]


def used_rows(sentence):
    """The rows that the last row is put together of, and itself: a dict of True."""
    used = {len(sentence) - 1: True}
    for number in range(len(sentence) - 1, -1, -1):
        if number in used:
            for part in part_rows(sentence[number]):
                used[part] = True
    return used


def row_text(rule, row, texts):
    """The row, written by the texts of its parts."""
    word = row[0]
    if word == "same":
        return row[1] + " is " + row[2]
    if word == "mark":
        return row[1] + " : " + rule[0][row[2]]
    if word == "way":
        return " ".join([row[1], rule[1][row[3]][0], row[2]])
    if word == "not":
        return "not " + texts[row[1]]
    if word in BINDING:
        return " ".join([word, row[1], texts[row[2]]])
    return "(" + texts[row[1]] + " " + word + " " + texts[row[2]] + ")"


def read_sentence(rule, text):
    """The sentence that the text writes, else BadText, row 0."""
    if not isinstance(text, str):
        raise BadText(0)
    sentence = read_rows(rule, words_of(text))
    try:
        look_sentence(rule, sentence)
    except NoSentence:
        raise BadText(0) from None
    return sentence


def words_of(text):
    """The text's words, brackets ahead of a word and behind it by themselves."""
    # blanks too many, or brackets alone, leave a word without signs, which stands nowhere
    words = []
    for piece in text.split(" "):
        bare = piece.lstrip("(")
        word = bare.rstrip(")")
        words.extend(["("] * (len(piece) - len(bare)) + [word] + [")"] * (len(bare) - len(word)))
    return words


def read_rows(rule, words):
    """The rows that the words write, whatever the names in them are."""
    rows = []
    # what was begun and waits for a part, the innermost last: its word, and a name or the first part's number
    begun = []
    place = 0
    while place < len(words):
        place = read_begun(words, place, begun)
        rows.append(read_plain(rule, words[place:place + 3]))
        place = read_ends(words, place + 3, begun, rows)
    if begun:
        raise BadText(0)
    return tuple(rows)


def read_begun(words, place, begun):
    """Adds what begins at the place ahead of a same, mark or way; the place behind it."""
    while place < len(words) and words[place] in ("(", "not", "some", "each"):
        if words[place] in BINDING:
            begun.append((words[place], word_at(words, place + 1)))
            place = place + 1
        else:
            begun.append((words[place],))
        place = place + 1
    return place


def word_at(words, place):
    """The word at the place, without signs behind the last one."""
    return words[place] if place < len(words) else ""


def read_plain(rule, words):
    """The same, mark or way that three words write."""
    if len(words) != 3:
        raise BadText(0)
    ways = [pair[0] for pair in rule[1]]
    if words[1] == "is":
        return ("same", words[0], words[2])
    if words[1] == ":" and words[2] in rule[0]:
        return ("mark", words[0], rule[0].index(words[2]))
    if words[1] in ways:
        return ("way", words[0], words[2], ways.index(words[1]))
    raise BadText(0)


def read_ends(words, place, begun, rows):
    """Adds the rows that have all their parts at the place, up to an and or or that begins another; the place there."""
    while begun:
        last = begun.pop()
        word = last[0]
        if word == "(":
            if word_at(words, place) not in ("and", "or"):
                raise BadText(0)
            begun.append((words[place], len(rows) - 1))
            return place + 1
        if word in ("and", "or"):
            if word_at(words, place) != ")":
                raise BadText(0)
            place = place + 1
        rows.append(last + (len(rows) - 1,))
    if place < len(words):
        raise BadText(0)
    return place
