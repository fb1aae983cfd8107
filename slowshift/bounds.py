"""Bounds: when a table is late, deeds told as tuples, and rows of deeds behind which a table is late."""

# By the pace, a size whose move to the half takes more deeds than it takes to fill the half
# and two keys more. At a pace of 3 or more there is no such size.
LATE_SIZES = {1: 8, 2: 32}


def is_late(table):
    return table.many() > table.sizes()[1] + 1


def late_row(pace):
    size = LATE_SIZES.get(pace)
    if size is None:
        return None
    # So many keys begin the move to the size; the cuts end it, and the last of them leaves just
    # few enough keys to begin the move to the half; then the puts outrun that move.
    grown = size // 2 + 1
    left = size // 8 - 1
    too_many = size // 2 + 2
    return puts(0, grown) + cuts(left, grown) + puts(left, too_many)


def puts(first, end):
    return [("put", key, key) for key in range(first, end)]


def cuts(first, end):
    return [("cut", key) for key in range(first, end)]


def done(table, deed):
    if deed[0] == "put":
        return table.put(deed[1], deed[2])
    if deed[0] == "look":
        return table.look(deed[1])
    return table.cut(deed[1])
