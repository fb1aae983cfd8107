"""Shelves: places with rows of pairs, each pair in the row of its key's place."""

from slowshift.errors import NoPlace, NoSize
from slowshift.kinds import is_size, is_whole
from slowshift.marks import mark_of, place_of


class Shelf:
    def __init__(self, size, mixer):
        if not is_size(size):
            raise NoSize("a size is one of 4, 8, 16 and so on to 4096")
        self.mixer = mixer
        # A dict keeps keys in the order in which they came, and a new worth doesn't move its
        # key: that is a row's order, and no row is long to search where all keys have one place.
        self.rows = [{} for place in range(size)]
        self.held = 0

    def put(self, key, worth):
        row = self.row_with(key)
        before = row.get(key)
        if before is None:
            self.held += 1
        row[key] = worth
        return before

    def cut(self, key):
        worth = self.row_with(key).pop(key, None)
        if worth is not None:
            self.held -= 1
        return worth

    def look(self, key):
        return self.row_with(key).get(key)

    def row(self, place):
        self.check_place(place)
        return list(self.rows[place].items())

    def empty(self, place):
        told = self.row(place)
        self.rows[place] = {}
        self.held -= len(told)
        return told

    def size(self):
        return len(self.rows)

    def many(self):
        return self.held

    def place_with(self, key):
        return place_of(mark_of(key, self.mixer), len(self.rows))

    def row_with(self, key):
        return self.rows[self.place_with(key)]

    def check_place(self, place):
        # The refused thing isn't shown: it may be anything, and not all can be written out.
        if not is_whole(place) or not 0 <= place < len(self.rows):
            raise NoPlace("a place is a whole number from 0 to one less than the size")
