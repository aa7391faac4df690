"""Rules and worlds that the tests share, and plain slow answers to hold the program's against."""

import functools
import itertools
import random

# one mark, one way
GRAY = (("dot",), (("near", 0),), ())
# one mark, two ways that are their own way back
GRAPH = (("dot",), (("near", 0), ("far", 1)), ())
# one mark, two ways that are each other's way back
ORDER = (("dot",), (("below", 1), ("above", 0)), ())
# two marks, a way of its own and two that are each other's, either way round
MIXED = (("red", "blue"), (("near", 0), ("below", 2), ("above", 1)), ())
TURNED = (("red", "blue"), (("below", 1), ("above", 0), ("near", 2)), ())
# three marks, two ways
COLOURS = (("red", "green", "blue"), (("below", 1), ("above", 0)), ())
PLAIN = (GRAY, GRAPH, ORDER, MIXED, TURNED, COLOURS)


def shaped(marks, backs, barred=()):
    """A rule of so many marks, and of ways with these ways back."""
    names = tuple("m" + "abc"[number] for number in range(marks))
    ways = tuple(("w" + "abc"[number], back) for number, back in enumerate(backs))
    return (names, ways, tuple(barred))


def all_shapes():
    """A rule of every count of marks, and every kind of ways, that the bounds let by."""
    backs = [(0,), (0, 1), (1, 0), (0, 1, 2), (1, 0, 2), (0, 2, 1)]
    return [shaped(marks, own) for marks in (1, 2, 3) for own in backs if marks * len(own) <= 6]


def with_barred(rule, barred):
    return (rule[0], rule[1], tuple(barred))


def slow_way(rule, world, i, j):
    """By a table of all pairs of points."""
    table = {}
    for number, (mark, ways) in enumerate(world):
        for other, there in enumerate(ways):
            table[number, other] = there
            table[other, number] = rule[1][there][1]
    return table[i, j]


def slow_part(rule, world, points):
    built = []
    for place in range(len(points)):
        ways = tuple(slow_way(rule, world, points[place], points[k]) for k in range(place))
        built.append((world[points[place]][0], ways))
    return tuple(built)


@functools.lru_cache(maxsize=None)
def slow_least_form(rule, world):
    orders = itertools.permutations(range(len(world)))
    return min(slow_part(rule, world, order) for order in orders)


@functools.lru_cache(maxsize=None)
def slow_figures(rule):
    """All figures of the rule's marks and ways, sorted, a tuple."""
    return tuple(sorted(set(slow_least_form(rule, three) for three in worlds_of(rule, 3))))


def slow_barred(rule, world):
    """All rising threes of points whose figure is barred, in order."""
    threes = itertools.combinations(range(len(world)), 3)
    return [three for three in threes if slow_least_form(rule, slow_part(rule, world, three)) in rule[2]]


def slow_stands(rule, world):
    return slow_barred(rule, world) == []


def slow_wishes(rule, world):
    """All wishes that may stand over the world, sorted."""
    rows = itertools.product(range(len(rule[1])), repeat=len(world))
    points = itertools.product(range(len(rule[0])), rows)
    return sorted(point for point in points if slow_stands(rule, world + (point,)))


def worlds_of(rule, size):
    """All worlds of so many points, by the rule's marks and ways."""
    found = [()]
    for ahead in range(size):
        rows = list(itertools.product(range(len(rule[1])), repeat=ahead))
        points = [(mark, row) for mark in range(len(rule[0])) for row in rows]
        found = [world + (point,) for world in found for point in points]
    return found


def some_world(rule, size, seed):
    """A world of so many points, its numbers mixed by the seed, the same each time."""
    state = seed * 7919 + 12345
    world = []
    for ahead in range(size):
        numbers = []
        for bound in [len(rule[0])] + [len(rule[1])] * ahead:
            state = (state * 1103515245 + 12345) & 0x7FFFFFFF
            numbers.append((state >> 16) % bound)
        world.append((numbers[0], tuple(numbers[1:])))
    return tuple(world)


def standing_worlds(rule, size):
    """All worlds of so many points that may stand, by the rule."""
    found = [()]
    for ahead in range(size):
        found = [world + (point,) for world in found for point in slow_wishes(rule, world)]
    return found


def some_standing(rule, size, seed):
    """A world of so many points that may stand, or of fewer where no more may come; the same each time."""
    chance = random.Random(seed)
    world = ()
    for ahead in range(size):
        points = slow_wishes(rule, world)
        if points:
            world += (points[int(chance.random() * len(points))],)
    return world


def mixed_bars(rule, seed, share):
    """The rule with about so many of a hundred of its figures barred, mixed by the seed, the same each time."""
    chance = random.Random(seed)
    return with_barred(rule, [figure for figure in slow_figures(rule) if chance.random() * 100 < share])


# figures of one mark and two ways that are their own way back, by how many are near (way 0) among the three
NEAR = (
    ((0, ()), (0, (1,)), (0, (1, 1))),
    ((0, ()), (0, (0,)), (0, (1, 1))),
    ((0, ()), (0, (0,)), (0, (0, 1))),
    ((0, ()), (0, (0,)), (0, (0, 0))),
)
# points in a row: below and above, and no ring
ROW = with_barred(ORDER, [((0, ()), (0, (0,)), (0, (1, 0)))])
# classes of points: near are those of one class, far those of two
CLASSES = with_barred(GRAPH, [NEAR[2]])
# classes of at most two points
COUPLES = with_barred(GRAPH, [NEAR[3], NEAR[2]])
NO_TRIANGLE = with_barred(GRAPH, [NEAR[3]])
NO_THREE = with_barred(GRAY, [NEAR[3]])
# all points are near or all are far
SPLIT = with_barred(GRAPH, [NEAR[2], NEAR[1]])
# neither three near nor three far
PENTAGON = with_barred(GRAPH, [NEAR[3], NEAR[0]])
# any three stand in a ring
RINGED = with_barred(ORDER, [((0, ()), (0, (0,)), (0, (0, 0)))])
# all of these always lay, but for SPLIT
BARRED = (ROW, CLASSES, COUPLES, NO_TRIANGLE, NO_THREE, SPLIT)


def barred_where(rule, wrong):
    """The rule with all figures barred that are wrong; wrong is asked with all marks and the ways of all pairs."""
    barred = []
    for figure in slow_figures(rule):
        ways = {(i, j): slow_way(rule, figure, i, j) for i, j in itertools.permutations(range(3), 2)}
        if wrong([point[0] for point in figure], ways):
            barred.append(figure)
    return with_barred(rule, barred)


def not_through(way):
    """Wrong where a point stands so to a second one, this to a third one, but the first not to the third."""
    def wrong(marks, ways):
        orders = itertools.permutations(range(3))
        return any(ways[i, j] == way and ways[j, k] == way and ways[i, k] != way for i, j, k in orders)
    return wrong


def either(*tests):
    return lambda marks, ways: any(test(marks, ways) for test in tests)


# two marks, and below and above as in any order in which points may also stand beside one another
BESIDE = barred_where(MIXED, not_through(1))
# two marks, classes of near points, and classes of near or middling ones
NESTED = barred_where(shaped(2, (0, 1, 2)), either(
    not_through(0),
    lambda marks, ways: any(max(ways[i, j], ways[j, k]) < 2 == ways[i, k] for i, j, k in itertools.permutations(range(3))),
))
# three marks, all in one row
COLOURED_ROW = barred_where(COLOURS, not_through(0))


class Table:
    """A world kept as a table of all pairs of points: another way to lay points to one another, by the words."""

    def __init__(self, rule, world=()):
        self.rule = rule
        self.marks = []
        self.ways = {}
        self.barred = set()
        for figure in rule[2]:
            for order in itertools.permutations(range(3)):
                self.barred.add(slow_part(rule, figure, order))
        for mark, ways in world:
            self.add(mark, dict(enumerate(ways)))

    def add(self, mark, ways):
        point = len(self.marks)
        self.marks.append(mark)
        for other, way in ways.items():
            self.ways[point, other] = way
            self.ways[other, point] = self.rule[1][way][1]

    def world(self):
        sizes = range(len(self.marks))
        return tuple((self.marks[i], tuple(self.ways[i, j] for j in range(i))) for i in sizes)

    def bars(self, known, mark, there, way):
        """Whether a new point that stands in this way to one there, and as known to others, is in a barred three."""
        for point, own in known.items():
            ahead = ((self.marks[point], ()), (self.marks[there], (self.ways[there, point],)))
            if ahead + ((mark, (own, way)),) in self.barred:
                return True
        return False

    def is_like(self, known, mark, there):
        return self.marks[there] == mark and all(self.ways[there, point] == way for point, way in known.items())

    def lay(self, known, mark, order):
        """The place of a point with this mark and these ways, new or one that is there; a list of one where none is."""
        known = dict(known)
        for there in range(len(self.marks)):
            if there not in known:
                fills = [way for way in order if not self.bars(known, mark, there, way)]
                if fills:
                    known[there] = fills[0]
                elif self.is_like(known, mark, there):
                    return there
                else:
                    return [there]
        self.add(mark, known)
        return len(self.marks) - 1


# things of the kinds that may be handed in where anything may, none of them a tuple
NO_TUPLES = (None, True, False, 0, 1, -1, 3, "", "a", "marks", [], [()], [(), (), ()], ["a"])


def slow_free(sentence, row):
    """The free names of the row, a set, by the words."""
    told = sentence[row]
    if told[0] in ("same", "way"):
        return {told[1], told[2]}
    if told[0] == "mark":
        return {told[1]}
    if told[0] in ("some", "each"):
        return slow_free(sentence, told[2]) - {told[1]}
    return set().union(*[slow_free(sentence, part) for part in told[1:]])


def slow_text(rule, sentence, row):
    """The text of the row, by the words."""
    told = sentence[row]
    if told[0] == "same":
        return f"{told[1]} is {told[2]}"
    if told[0] == "mark":
        return f"{told[1]} : {rule[0][told[2]]}"
    if told[0] == "way":
        return f"{told[1]} {rule[1][told[3]][0]} {told[2]}"
    if told[0] == "not":
        return f"not {slow_text(rule, sentence, told[1])}"
    if told[0] in ("some", "each"):
        return f"{told[0]} {told[1]} {slow_text(rule, sentence, told[2])}"
    return f"({slow_text(rule, sentence, told[1])} {told[0]} {slow_text(rule, sentence, told[2])})"


def slow_spread(sentence, row):
    """The rows of which the row is put together, none shared: first those of its parts, each as often as it stands."""
    told = sentence[row]
    rows = []
    ends = []
    for part in slow_parts(told):
        ahead = len(rows)
        for held in slow_spread(sentence, part):
            own = slow_parts(held)
            rows.append(held[:len(held) - len(own)] + tuple(number + ahead for number in own))
        ends.append(len(rows) - 1)
    return tuple(rows) + (told[:len(told) - len(ends)] + tuple(ends),)


def slow_parts(told):
    """The numbers of the rows that are the told row's parts."""
    return {"not": told[1:], "and": told[1:], "or": told[1:], "some": told[2:], "each": told[2:]}.get(told[0], ())


def mixed_sentence(rule, seed, size, free=3, names="xyz"):
    """A sentence of at least so many rows, with at most so many free names, mixed by the seed, the same each time.

    At most three names are free or bound within one another in any row.
    """
    chance = random.Random(seed)
    rows = []
    while len(rows) < size or len(slow_free(rows, len(rows) - 1)) > free:
        left = sorted(slow_free(rows, len(rows) - 1)) if len(rows) >= size else list(names)
        row = mixed_row(rule, chance, len(rows), left, len(rows) >= size)
        if slow_depth(rows + [row], len(rows)) + len(slow_free(rows + [row], len(rows))) <= 3:
            rows.append(row)
    return tuple(rows)


def mixed_row(rule, chance, ahead, names, binds):
    def one_of(things):
        return things[int(chance.random() * len(things))]

    if binds:
        return (one_of(("some", "each")), one_of(names), ahead - 1)
    # one part is the row that came last, so that rows are put together in many steps
    late = [ahead - 1, int(chance.random() * ahead)]
    if chance.random() < 0.5:
        late = late[::-1]
    plain = ("same", "mark", "way", "way")
    kind = one_of(plain if ahead < 4 else plain + ("not", "and", "or", "some", "each") * 4)
    one = one_of(names)
    # two names that are the same say little
    other = one_of(names) if chance.random() < 0.2 else one_of([name for name in names if name != one])
    if kind == "same":
        return (kind, one, other)
    if kind == "mark":
        return (kind, one, int(chance.random() * len(rule[0])))
    if kind == "way":
        return (kind, one, other, int(chance.random() * len(rule[1])))
    if kind in ("some", "each"):
        return (kind, one, max(late))
    return (kind, max(late)) if kind == "not" else (kind,) + tuple(late)


def slow_depth(sentence, row):
    """How many names are bound within one another in the row."""
    told = sentence[row]
    parts = [slow_depth(sentence, part) for part in slow_parts(told)]
    return max(parts, default=0) + (told[0] in ("some", "each"))


def slow_standing(rule, world, places, names):
    """The standing of these names by their places in the world, a dict, by the words."""
    points = list(dict.fromkeys(places[name] for name in sorted(names)))
    return (slow_part(rule, world, points), tuple((name, points.index(places[name])) for name in sorted(names)))


def slow_standings(rule, names):
    """All standings of the names, sorted: all worlds that may stand, all ways to name their points."""
    found = set()
    for size in range(len(names) + 1):
        for world in standing_worlds(rule, size):
            for points in itertools.product(range(size), repeat=len(names)):
                if sorted(set(points)) == list(range(size)):
                    found.add(slow_standing(rule, world, dict(zip(names, points)), names))
    return sorted(found)


@functools.lru_cache(maxsize=None)
def kept_wishes(rule, world):
    return tuple(slow_wishes(rule, world))


def plain_row_holds(rule, told, world, places):
    """Whether a same, mark or way holds of named points of a world, by the words."""
    one = places[told[1]]
    if told[0] == "mark":
        return world[one][0] == told[2]
    other = places[told[2]]
    if told[0] == "same":
        return one == other
    return one != other and slow_way(rule, world, one, other) == told[3]


def holds_in(rule, sentence, row, world, places):
    """Whether the row holds of the named points in a world as it is, some and each of all its points."""
    told = sentence[row]
    if told[0] in ("same", "mark", "way"):
        return plain_row_holds(rule, told, world, places)
    if told[0] in ("some", "each"):
        points = range(len(world))
        found = [holds_in(rule, sentence, told[2], world, {**places, told[1]: point}) for point in points]
    else:
        found = [holds_in(rule, sentence, part, world, places) for part in told[1:]]
    return joined(told[0], found)


def joined(word, found):
    return {"not": lambda: not found[0], "and": lambda: all(found), "or": lambda: any(found),
            "some": lambda: any(found), "each": lambda: all(found)}[word]()


class SlowJudge:
    """Judges a sentence in a world that is grown by each name that is bound, and keeps every point that came."""

    def __init__(self, rule, sentence):
        self.rule = rule
        self.sentence = sentence
        self.kept = {}

    def truth(self, row, world, places):
        asked = (row, world, tuple(sorted(places.items())))
        if asked not in self.kept:
            self.kept[asked] = self.found(self.sentence[row], world, places)
        return self.kept[asked]

    def found(self, told, world, places):
        if told[0] in ("same", "mark", "way"):
            return plain_row_holds(self.rule, told, world, places)
        if told[0] in ("some", "each"):
            old = [self.truth(told[2], world, {**places, told[1]: point}) for point in range(len(world))]
            new = [self.truth(told[2], world + (wish,), {**places, told[1]: len(world)})
                   for wish in kept_wishes(self.rule, world)]
            return joined(told[0], old + new)
        return joined(told[0], [self.truth(part, world, places) for part in told[1:]])

    def at(self, row, standing):
        return self.truth(row, standing[0], dict(standing[1]))

    def parts(self, row, standing):
        """All (move, part, its standing), by the words."""
        told = self.sentence[row]
        world, places = standing[0], dict(standing[1])
        if told[0] not in ("some", "each"):
            return [(number, part, slow_standing(self.rule, world, places, slow_free(self.sentence, part)))
                    for number, part in enumerate(slow_parts(told))]
        names = slow_free(self.sentence, told[2])
        found = [(point, told[2], slow_standing(self.rule, world, {**places, told[1]: point}, names))
                 for point in range(len(world))]
        for wish in kept_wishes(self.rule, world):
            there = slow_standing(self.rule, world + (wish,), {**places, told[1]: len(world)}, names)
            found.append((wish, told[2], there))
        return found

    def table(self):
        """All entries that are needed, by the words, sorted."""
        entries = {}
        due = [(len(self.sentence) - 1, ((), ()))]
        while due:
            row, standing = due.pop()
            if (row, standing) not in entries:
                move, parts = self.shown(row, standing)
                entries[row, standing] = (row, standing, self.at(row, standing), move)
                due += [(part, there) for number, part, there in parts]
        return tuple(entries[asked] for asked in sorted(entries))

    def shown(self, row, standing):
        """The move, and the parts that show the row's truth."""
        parts = self.parts(row, standing)
        truth = self.at(row, standing)
        if (self.sentence[row][0], truth) in (("or", True), ("and", False), ("some", True), ("each", False)):
            for move, part, there in parts:
                if self.at(part, there) == truth:
                    return move, [(move, part, there)]
        return None, parts
