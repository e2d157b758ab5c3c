"""What several tests share: sample data, all data found by trying, and values of many kinds."""

import fractions
import itertools
import math
import random

from toldcounts.areas import Areas
from toldcounts.crosses import Cross, table_cross
from toldcounts.faces import Faces
from toldcounts.reports import Report

LAND = Areas((("all", "", (10, 12)), ("north", "all", (0, 9)), ("south", "all", (0, 4)),
              ("coast", "north", (2, 5)), ("hills", "north", (0, 3))))
POOR = LAND.changed("all", (13, 20))
RICH = LAND.changed("hills", (8, 9)).changed("all", (0, 9))
TOWN = Areas((("all", "", (0, 99)), ("east", "all", (0, 99)), ("west", "all", (0, 99)), ("mid", "all", (0, 99))))
SEEN = (20, 7, 9, 4)
ALONE = Areas((("all", "", (3, 5)),))
GRID = table_cross((3, 2), (1, 4))
SHIFTS = Areas((("all", "", (4, 6)), ("day", "all", (1, 4)), ("night", "all", (0, 3))))
AGES = Areas((("both", "", (0, 9)), ("old", "both", (2, 3)), ("young", "both", (1, 4))))
HALL = Cross(SHIFTS, AGES, (((0, 2), (0, 4)), ((1, 1), (0, 9))))
CROWDED = HALL.changed(("row", "all"), (9, 9))
SPOT = Cross(ALONE, Areas((("one", "", (4, 9)),)), (((0, 7),),))


class AlwaysEqual:
    """Equal to everything; to be compared with is not for a check to rely on."""

    def __eq__(self, other):
        return True


class NeverAsked:
    """Raises an error whatever it is asked."""

    def _refuse(self, *_):
        raise RuntimeError("asked")

    __eq__ = __ne__ = __lt__ = __le__ = __gt__ = __ge__ = _refuse
    __len__ = __bool__ = __iter__ = __getitem__ = __contains__ = __str__ = __repr__ = __hash__ = _refuse


def deep(levels):
    value = ()
    for _ in range(levels):
        value = (value,)
    return value


# Each of these is of no use for any argument, but for those of the tuples that are empty.
STRANGE = (None, True, False, -1, -(10 ** 99), 10 ** 99, "", " ", "-", "No", "a b", "abcdefghi", "3-8\n", b"all",
           [], [1, 2], ["all"], {}, {"all": 1}, {1, 2}, object(), AlwaysEqual(), NeverAsked(), len, Areas,
           range(3), (None,), (True, True), (False, True), ((), ()), ("all",) * 12, ([0, 1],), (NeverAsked(),),
           (AlwaysEqual(), AlwaysEqual()), (NeverAsked(), NeverAsked(), NeverAsked()), deep(18),
           ([1], [2], [3]), ({}, {}), (-1, -2), (10 ** 99, 10 ** 99), (b"a", b"b"))


def all_counts(areas):
    """All counts, by trying all numbers of the leaves."""
    inner = {name: areas.inner(name) for name in areas.names}
    tried = [range(areas.stretch(name)[0], areas.stretch(name)[1] + 1) for name in areas.leaves]
    found = []
    for numbers in itertools.product(*tried):
        told = dict(zip(areas.leaves, numbers))
        for name in reversed(areas.names):
            if inner[name]:
                told[name] = sum(told[part] for part in inner[name])
        if all(areas.stretch(name)[0] <= told[name] <= areas.stretch(name)[1] for name in areas.names):
            found.append(tuple(told[name] for name in areas.names))
    return sorted(found)


def leaf_sums(areas, counts):
    """The numbers of the leaves in these counts."""
    places = [areas.names.index(name) for name in areas.leaves]
    return {tuple(count[at] for at in places): count for count in counts}


def column_sums(table):
    return tuple(sum(column) for column in zip(*table))


def row_sums(table):
    return tuple(sum(row) for row in table)


def leaves_in(areas, name):
    """The indexes of the leaves that lie in an area, or of the leaf that it is."""
    if name in areas.leaves:
        return {areas.leaves.index(name)}
    return set().union(*[leaves_in(areas, part) for part in areas.inner(name)])


def do_fit(areas, numbers):
    """Whether leaves with these numbers have sums as the areas tell."""
    return all(low <= sum(numbers[leaf] for leaf in leaves_in(areas, name)) <= high
               for name, _, (low, high) in areas.lines)


def all_fillings(cross):
    """All fillings, by trying all numbers of the cells."""
    wide = len(cross.columns.leaves)
    tried = [range(low, high + 1) for row in cross.cells for low, high in row]
    fit_rows, fit_columns, found = {}, {}, []
    for numbers in itertools.product(*tried):
        table = tuple(numbers[at:at + wide] for at in range(0, len(numbers), wide))
        rows, columns = row_sums(table), column_sums(table)
        if rows not in fit_rows:
            fit_rows[rows] = do_fit(cross.rows, rows)
        if fit_rows[rows] and columns not in fit_columns:
            fit_columns[columns] = do_fit(cross.columns, columns)
        if fit_rows[rows] and fit_columns[columns]:
            found.append(table)
    return found


def told_numbers(cross, fillings):
    """For each name of a told stretch, the numbers that it has in the fillings, one behind another."""
    rows = leaf_sums(cross.rows, all_counts(cross.rows))
    columns = leaf_sums(cross.columns, all_counts(cross.columns))
    found = {what: [] for what in cross.tolds}
    for table in fillings:
        row_count, column_count = rows[row_sums(table)], columns[column_sums(table)]
        for what in cross.tolds:
            if what[0] == "row":
                found[what].append(row_count[cross.rows.names.index(what[1])])
            elif what[0] == "column":
                found[what].append(column_count[cross.columns.names.index(what[1])])
            else:
                found[what].append(table[what[1]][what[2]])
    return found


def ends(numbers):
    return (min(numbers), max(numbers))


def some_stretch(chance, most):
    low = chance.choice((0, 0, chance.randint(0, most)))
    return (low, chance.choice((most, chance.randint(low, most))))


def some_areas(chance, most_lines, most_leaves, most):
    """Areas of any shape, by this random source; not all of them have a count."""
    while True:
        names = ["all"] + chance.sample("abcdefghi", chance.randint(0, most_lines - 1))
        lines = [("all", "", some_stretch(chance, chance.choice((most, 2 * most))))]
        for at in range(1, len(names)):
            lines.append((names[at], chance.choice(names[:at]), some_stretch(chance, most)))
        areas = Areas(tuple(lines))
        if len(areas.leaves) <= most_leaves:
            return areas


def many_areas(seed, many, most_lines=6, most_leaves=4, most=4):
    chance = random.Random(seed)
    return [some_areas(chance, most_lines, most_leaves, most) for _ in range(many)]


def some_cross(chance, most_cells):
    while True:
        most = chance.choice((2, 3, 5))
        rows, columns = some_areas(chance, 4, 3, most), some_areas(chance, 4, 3, most)
        if len(rows.leaves) * len(columns.leaves) <= most_cells:
            break
    cells = [[some_stretch(chance, chance.choice((1, 2, 3))) for _ in columns.leaves] for _ in rows.leaves]
    return Cross(rows, columns, tuple(tuple(row) for row in cells))


def many_crosses(seed, many, most_cells=4):
    chance = random.Random(seed)
    return [some_cross(chance, most_cells) for _ in range(many)]


def some_tree(chance, leaves):
    """Names and parents of areas with so many leaves, in at most eight lines."""
    while True:
        names = ["all"] + chance.sample("abcdefg", chance.randint(0, 7))
        parents = [""] + [chance.choice(names[:at]) for at in range(1, len(names))]
        if sum(name not in parents for name in names) == leaves:
            return names, parents


def stretch_around(chance, number, spread, most):
    """A stretch in which the number lies."""
    low, high = max(0, number - chance.randint(0, spread)), number + chance.randint(0, spread)
    return chance.choice(((low, high), (low, high), (0, high), (low, max(number, most))))


def areas_around(chance, numbers, spread):
    """Areas of any shape in which the leaves can have these numbers."""
    names, parents = some_tree(chance, len(numbers))
    told = dict(zip([name for name in names if name not in parents], numbers))
    for name in reversed(names):
        if name not in told:
            told[name] = sum(told[part] for part, parent in zip(names, parents) if parent == name)
    return Areas(tuple((name, parent, stretch_around(chance, told[name], spread, 40))
                       for name, parent in zip(names, parents)))


def cross_around(chance, rows, columns, most, spread):
    """A cross of this size in which a table with numbers up to the most fits, and the table."""
    table = tuple(tuple(chance.randint(0, most) for _ in range(columns)) for _ in range(rows))
    cells = tuple(tuple(stretch_around(chance, number, spread, most) for number in row) for row in table)
    cross = Cross(areas_around(chance, row_sums(table), 2 * spread),
                  areas_around(chance, column_sums(table), 2 * spread), cells)
    low, high = cross.rows.stretch("all")
    return cross.changed(("row", "all"), (low, max(low, min(high, 40)))), table


def crosses_around(seed, many, sizes, most=2, spread=1):
    """So many crosses, each of one of the sizes, with numbers up to the most, and with fillings."""
    chance = random.Random(seed)
    return [cross_around(chance, *chance.choice(sizes), most, spread)[0] for _ in range(many)]


SMALL_SIZES = ((1, 1), (1, 2), (2, 1), (2, 2), (2, 2), (2, 3), (3, 2), (1, 4), (4, 1))


def great_side(names, whole, inner, leaf):
    """Eight lines and four leaves: three areas between the whole and the leaves."""
    one, two, three, four = names
    return Areas((("all", "", whole), ("left", "all", inner), ("right", "all", inner), ("far", "right", inner),
                  (one, "left", leaf), (two, "left", leaf), (three, "far", leaf), (four, "far", leaf)))


def nearest(number):
    """The nearest integer, halves up."""
    return math.floor(number + fractions.Fraction(1, 2))


def all_scores(people, scale):
    """All scores of so many people, ascending."""
    return list(itertools.combinations_with_replacement(range(scale[0], scale[1] + 1), people))


def told_of(scores, fact):
    """The fact with what these scores have in the place of what it tells."""
    people, total = len(scores), sum(scores)
    if fact[0] == "mean":
        return ("mean", fact[1], nearest(fractions.Fraction(10 ** fact[1] * total, people)))
    if fact[0] == "spread":
        mean = fractions.Fraction(total, people)
        return ("spread", fact[1], nearest(10 ** fact[1] * sum((score - mean) ** 2 for score in scores) / people))
    if fact[0] == "total":
        return ("total", (total, total))
    if fact[0] == "holders":
        return ("holders", fact[1], (scores.count(fact[1]), scores.count(fact[1])))
    return (fact[0], {"middle": scores[(people - 1) // 2], "least": min(scores), "greatest": max(scores)}[fact[0]])


def is_told(scores, fact):
    """Whether the scores are as the fact tells."""
    right = told_of(scores, fact)
    if isinstance(fact[-1], tuple):
        return fact[-1][0] <= right[-1][0] <= fact[-1][1]
    return right == fact


def some_fact(chance, people, scale, scores):
    """A fact of any kind, right for these scores."""
    word = chance.choice(("mean", "spread", "total", "middle", "least", "greatest", "holders"))
    fact = told_of(scores, (word, chance.choice((0, 1, 2) if word in ("mean", "spread") else range(scale[0], scale[1] + 1))))
    if isinstance(fact[-1], tuple):
        low = fact[-1][0]
        return fact[:-1] + ((max(0, low - chance.randint(0, 2)), low + chance.randint(0, 2)),)
    if word in ("mean", "spread") and chance.random() < 0.15:
        return fact[:-1] + (fact[-1] + chance.randint(1, 30),)
    return fact


def some_report(chance, people, scale, facts):
    """A report; mostly some scores fit it."""
    scores = all_scores(people, scale)
    told = [chance.choice(scores) for _ in range(2)]
    lean = chance.choice((0, 0, 0, 1))
    return Report(people, scale, tuple(some_fact(chance, people, scale, told[chance.randint(0, lean)])
                                       for _ in range(facts)))


def many_reports(seed, many, most_people=5):
    chance = random.Random(seed)
    found = []
    for _ in range(many):
        low = chance.randint(0, 4)
        scale = (low, chance.randint(low, min(6, low + 4)))
        found.append(some_report(chance, chance.randint(1, most_people), scale, chance.randint(0, 6)))
    return found


def all_fits(report):
    """All scores that fit, ascending."""
    return [scores for scores in all_scores(report.people, report.scale)
            if all(is_told(scores, fact) for fact in report.facts)]


FEW = Report(3, (1, 5), (("mean", 0, 3), ("middle", 2)))
CLASHING = Report(3, (1, 5), (("middle", 2), ("total", (13, 15)), ("least", 3)))


def faces_around(box):
    """The faces of a box."""
    front = tuple(tuple(sum(row) for row in table) for table in box)
    side = tuple(column_sums(table) for table in box)
    top = tuple(column_sums(rows) for rows in zip(*box))
    return Faces(front, side, top)


def some_box(chance, a, b, c, total):
    """A box with these edges and numbers that add up to the total."""
    box = [[[0] * c for _ in range(b)] for _ in range(a)]
    for _ in range(total):
        box[chance.randrange(a)][chance.randrange(b)][chance.randrange(c)] += 1
    return tuple(tuple(tuple(row) for row in table) for table in box)


def rows_with(total, limits):
    """All rows with this sum and numbers up to the limits."""
    found = [row for row in itertools.product(*[range(min(limit, total) + 1) for limit in limits]) if sum(row) == total]
    return found


def all_boxes(faces):
    """All boxes for the faces, by trying all rows with the sums that the front tells."""
    a, b, c = faces.edges
    found = [()]
    for i in range(a):
        slabs = [()]
        for j in range(b):
            limits = [min(faces.side[i][k], faces.top[j][k]) for k in range(c)]
            slabs = [slab + (row,) for slab in slabs for row in rows_with(faces.front[i][j], limits)]
        slabs = [slab for slab in slabs if column_sums(slab) == faces.side[i]]
        found = [box + (slab,) for box in found for slab in slabs]
    return sorted(box for box in found if tuple(column_sums(rows) for rows in zip(*box)) == faces.top)


def many_faces(seed, many, most=8):
    """Faces with numbers of the front that add up to at most so many; most have a box, some only nearly."""
    chance = random.Random(seed)
    found = []
    while len(found) < many:
        a, b, c = [chance.choice((1, 2, 2, 3, 3)) for _ in range(3)]
        faces = faces_around(some_box(chance, a, b, c, chance.choice((most, most, chance.randint(0, most)))))
        if chance.random() < 0.3:
            other = faces_around(some_box(chance, a, b, c, chance.randint(0, most)))
            faces = chance.choice((Faces(faces.front, faces.side, other.top), Faces(faces.front, other.side, faces.top)))
        found.append(faces)
    return found


ONES = Faces(((1, 1), (1, 1)), ((1, 1), (1, 1)), ((1, 1), (1, 1)))
APART = Faces(((1, 0), (0, 1)), ((1, 0), (0, 1)), ((0, 1), (1, 0)))
TWELVE = Faces(((4, 4, 4),), ((4, 4, 4),), ((4, 0, 0), (0, 4, 0), (0, 0, 4)))
THIRTEEN = Faces(((5, 4, 4),), ((5, 4, 4),), ((5, 0, 0), (0, 4, 0), (0, 0, 4)))
