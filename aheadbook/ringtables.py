"""The rings of a table: of three hands, by their places, all at once, with a one for each set ahead of them."""

from aheadbook.tables import also_let, lacking, table_copied


def threes_at(many):
    """The places of each three of so many hands, rising."""
    return [(i, j, m) for i in range(many) for j in range(i + 1, many) for m in range(j + 1, many)]


def ring_spots(places):
    """Of each let of the rings of the three: whose it is, and the number of what stands ahead beside the set."""
    i, j, m = places
    return [(i, j, 0), (i, m, 1 << j), (j, m, 0), (i, j, 1 << m), (i, m, 0), (j, m, 1 << i)]


def ring_marks(table, free, places):
    """Of each let of the rings of the three: a one for each set whose ring has it."""
    i, j, m = places
    room = free[i] & free[j] & free[m]
    # A set with one hand more has a number that is greater by this hand's: so the ones are moved by it.
    return [table[p][q] >> more & room for p, q, more in ring_spots(places)]


def rows_of_three(marks):
    """Of each start: a one for each set whose ring has this let and the next two, round and round."""
    return [marks[start] & marks[(start + 1) % 6] & marks[(start + 2) % 6] for start in range(6)]


def whole_rings(marks):
    """A one for each set whose ring has all six lets."""
    return marks[0] & marks[1] & marks[2] & marks[3] & marks[4] & marks[5]


def torn_sets(marks):
    """A one for each set whose ring has three lets in a row and lacks one."""
    some = 0
    for ones in rows_of_three(marks):
        some = some | ones
    return some & ~whole_rings(marks)


def torn_rings(table):
    """Of each three some of whose rings have three lets in a row and lack one: places, marks, and the sets of these."""
    free = lacking(len(table))
    found = []
    for places in threes_at(len(table)):
        marks = ring_marks(table, free, places)
        torn = torn_sets(marks)
        if torn:
            found.append((places, marks, torn))
    return found


def followed(table):
    """What follows from the table, ring by ring: the least table without a torn ring, and the steps that lead there.

    A step tells places, a start, and of each let of the three's rings a one for each set whose ring
    has the three lets from the start on, and gains this one by it.
    """
    rows = [list(row) for row in table]
    free = lacking(len(table))
    threes = threes_at(len(table))
    steps = []
    earlier = -1
    while earlier < len(steps):
        earlier = len(steps)
        for places in threes:
            steps.extend(mended(rows, free, places))
    return (table_copied(rows), steps)


def mended(rows, free, places):
    """Gives the rings of the three what follows in them, in rows that are being written; the steps."""
    marks = ring_marks(rows, free, places)
    torn = torn_sets(marks)
    if not torn:
        return []
    for p, q, more in ring_spots(places):
        also_let(rows, p, q, torn << more)
    steps = []
    left = torn
    for start, ones in enumerate(rows_of_three(marks)):
        going = ones & left
        if going:
            steps.append((places, start, [going & ~mark for mark in marks]))
            left = left ^ going
    return steps
