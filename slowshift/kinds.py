"""What the whole program counts as a whole number, a size, a key and so on; asked of anything."""

SIZES = (4, 8, 16, 32, 64, 128, 256, 512, 1024, 2048, 4096)
GREATEST = 1000000000
LAST_POINT = 65535
GREATEST_MIXER_PART = 65535
GREATEST_PACE = 8


def is_whole(thing):
    # Python counts True and False among the ints; here they are none.
    return isinstance(thing, int) and not isinstance(thing, bool)


def is_size(thing):
    return is_whole(thing) and thing in SIZES


def is_key(thing):
    return is_whole(thing) and 0 <= thing <= GREATEST


def is_worth(thing):
    return is_whole(thing) and -GREATEST <= thing <= GREATEST


def is_mixer_part(thing):
    return is_whole(thing) and 0 <= thing <= GREATEST_MIXER_PART


def is_pace(thing):
    return is_whole(thing) and 1 <= thing <= GREATEST_PACE


def is_point(thing):
    return is_whole(thing) and 0 <= thing <= LAST_POINT
