"""What the whole program counts as a whole number and as a size; asked of anything."""

SIZES = (4, 8, 16, 32, 64, 128, 256, 512, 1024, 2048, 4096)


def is_whole(thing):
    # Python counts True and False among the ints; here they are none.
    return isinstance(thing, int) and not isinstance(thing, bool)


def is_size(thing):
    return is_whole(thing) and thing in SIZES
