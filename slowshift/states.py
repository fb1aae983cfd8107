"""States: the first fault of one, whether one is sound, and tables made of sound ones."""

from slowshift.errors import NoState
from slowshift.kinds import is_key, is_size, is_whole, is_worth
from slowshift.marks import mark_of, place_of
from slowshift.tables import Table


def first_fault(state, mixer):
    if not has_right_places(state[0], state[2]):
        return ("places",)
    if not has_right_moved(state[0], state[1]):
        return ("moved",)
    return first_fault_of_pairs(state, mixer)


def has_right_places(elder, newer):
    if not is_size(len(newer)):
        return False
    if elder is None:
        return True
    return is_size(len(elder)) and (len(elder) == 2 * len(newer) or len(newer) == 2 * len(elder))


def has_right_moved(elder, moved):
    return 0 <= moved < (1 if elder is None else len(elder))


def first_fault_of_pairs(state, mixer):
    sizes = {"elder": len(state[0] or ()), "newer": len(state[2])}
    # On the newer shelf no place is moved.
    moved = {"elder": state[1], "newer": 0}
    had = {}
    for shelf, place, key in keys_in_turn(state):
        if place_of(mark_of(key, mixer), sizes[shelf]) != place:
            return ("place", shelf, place)
        if place < moved[shelf]:
            return ("emptied", shelf, place)
        if key in had:
            return ("twice", shelf, place)
        had[key] = True
    return None


# Each key with its shelf and place; which fault is the first hangs on this order.
def keys_in_turn(state):
    told = []
    for shelf, rows in (("elder", state[0] or ()), ("newer", state[2])):
        for place, row in enumerate(rows):
            told.extend([(shelf, place, pair[0]) for pair in row])
    return told


def is_sound(state, mixer):
    return is_state(state) and first_fault(state, mixer) is None


def is_state(thing):
    if not isinstance(thing, tuple) or len(thing) != 3:
        return False
    return (thing[0] is None or are_rows(thing[0])) and is_whole(thing[1]) and are_rows(thing[2])


def are_rows(thing):
    return isinstance(thing, tuple) and all([is_row(row) for row in thing])


def is_row(thing):
    return isinstance(thing, tuple) and all([is_pair(pair) for pair in thing])


def is_pair(thing):
    return isinstance(thing, tuple) and len(thing) == 2 and is_key(thing[0]) and is_worth(thing[1])


def table_of(state, mixer, pace):
    if not is_sound(state, mixer):
        raise NoState("a table is made of a sound state alone")
    return Table(mixer, pace, state)
