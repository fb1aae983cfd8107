"""Marks of keys, and the places, points and stretches that follow from them."""

MARK_BITS = 16
MARKS = 65536


def mark_of(key, mixer):
    return (key * mixer[0] + mixer[1]) % MARKS


def place_of(mark, size):
    return mark % size


def point_of(mark):
    point = 0
    for bit in range(MARK_BITS):
        point = point * 2 + (mark >> bit) % 2
    return point


def stretch_of(place, size):
    # A place is the low bits of its marks, and so the high bits of their points: the least
    # of these is that of the mark with no further bits, and the others follow without a gap.
    first = point_of(place)
    return (first, first + MARKS // size - 1)
