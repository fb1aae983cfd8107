"""Walks: steps through a table by points, so that moves between the steps hide no key."""

from slowshift.marks import MARKS, place_of, point_of, stretch_of


def step(table, cursor):
    shelves = sorted(table.shelves(), key=lambda shelf: shelf.size())
    size = shelves[0].size()
    place = place_at(cursor, size)
    pairs = shelves[0].row(place)
    for greater in shelves[1:]:
        for part in parts_left(place, size, cursor):
            pairs.extend(greater.row(part))
    return (point_behind(place, size), pairs)


def place_at(cursor, size):
    # Turning the bits about twice gives what was there: this is the mark whose point is the cursor.
    return place_of(point_of(cursor), size)


def parts_left(place, size, cursor):
    # What ends below the cursor was told by the steps ahead, when the shelves were greater.
    return [part for part in (place, place + size) if stretch_of(part, size * 2)[1] >= cursor]


def point_behind(place, size):
    return (stretch_of(place, size)[1] + 1) % MARKS
