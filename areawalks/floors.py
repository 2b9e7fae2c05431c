"""All classes of a closed floor, ring by ring.

The classes over one end are packed in one integer, whose bits tell the areas of their rests.
"""


def ring_sizes(table):
    """The numbers of classes at the distances 0, 1, 2, .. from that of home, for the table of a closed floor."""
    home = table.home
    rows = neighbours(table)
    left = [(1 << home) - 1] * len(rows)
    left[0] = left[0] - 1
    ring = {0: 1}
    sizes = []
    while len(ring) > 0:
        sizes.append(sum([f"{areas:b}".count("1") for areas in ring.values()]))
        further = {}
        for end, areas in ring.items():
            for other, rise in rows[end]:
                # Areas that rise to the home number come in again from below.
                fresh = (areas << rise | areas >> home - rise) & left[other]
                if fresh != 0:
                    left[other] = left[other] - fresh
                    further[other] = further.get(other, 0) + fresh
        ring = further
    return sizes


def neighbours(table):
    """For the end of each rest the pairs (number, rise) of the ends a step east, west, north and south.

    With the ledge (p, q, r), (0, s, t) the end (x, y) has the number x * s + y.
    """
    rows = []
    for x in range(table.ledge[0].x):
        for y in range(table.ledge[1].y):
            rows.append([
                landing(table, x + 1, y, 0), landing(table, x - 1, y, 0),
                landing(table, x, y + 1, x), landing(table, x, y - 1, -x)])
    return rows


def landing(table, x, y, rise):
    """The number of the end of the rest over (x, y), and the rise with that on the way to this rest."""
    first, second = table.ledge
    # The home number divides x and y of both places, so only their own areas count.
    across = x // first.x
    up = (y - across * first.y) // second.y
    number = (x - across * first.x) * second.y + y - across * first.y - up * second.y
    return number, (rise - across * first.area - up * second.area) % table.home
