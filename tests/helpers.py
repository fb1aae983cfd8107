"""What several test files need: plain shelves and tables to hold the program against, and long rows of deeds."""

import functools
import itertools

SIZES = (4, 8, 16, 32, 64, 128, 256, 512, 1024, 2048, 4096)
PLAIN = (1, 0)
ONE_PLACE = (0, 6)
MIXERS = (PLAIN, ONE_PLACE, (40503, 12345), (65535, 65535), (4096, 0))
GREATEST = 10 ** 9
POINTS = [int(f"{mark:016b}"[::-1], 2) for mark in range(65536)]


def mark(key, mixer):
    return (key * mixer[0] + mixer[1]) % 65536


class PlainShelf:
    """The document's words on shelves once more, by lists that are searched."""

    def __init__(self, size, mixer):
        self.rows = [[] for place in range(size)]
        self.mixer = mixer

    def place(self, key):
        return mark(key, self.mixer) % len(self.rows)

    def found(self, key):
        row = self.rows[self.place(key)]
        for number, pair in enumerate(row):
            if pair[0] == key:
                return row, number
        return row, None

    def put(self, key, worth):
        row, number = self.found(key)
        if number is None:
            row.append((key, worth))
            return None
        before = row[number][1]
        row[number] = (key, worth)
        return before

    def cut(self, key):
        row, number = self.found(key)
        return None if number is None else row.pop(number)[1]

    def look(self, key):
        row, number = self.found(key)
        return None if number is None else row[number][1]

    def empty(self, place):
        told = self.rows[place]
        self.rows[place] = []
        return told

    def many(self):
        return sum(len(row) for row in self.rows)


class PlainTable:
    """The document's words on tables once more, over plain shelves."""

    def __init__(self, mixer, pace, state=None):
        elder, moved, newer = state or (None, 0, ((),) * 4)
        self.mixer = mixer
        self.pace = pace
        self.elder = None if elder is None else self.shelf(elder)
        self.moved = moved
        self.newer = self.shelf(newer)
        self.places = set()

    def shelf(self, rows):
        shelf = PlainShelf(len(rows), self.mixer)
        shelf.rows = [list(row) for row in rows]
        return shelf

    def done(self, deed):
        key = deed[1]
        self.places = set()
        self.move()
        self.places.add(("newer", self.newer.place(key)))
        if self.elder is not None and self.elder.place(key) >= self.moved:
            self.places.add(("elder", self.elder.place(key)))
        shelf = self.newer
        if self.elder is not None and self.elder.found(key)[1] is not None:
            shelf = self.elder
        told = getattr(shelf, deed[0])(*deed[1:])
        self.begin()
        return told

    def move(self):
        for turn in range(self.pace):
            if self.elder is None:
                return
            self.places.add(("elder", self.moved))
            for key, worth in self.elder.empty(self.moved):
                self.newer.put(key, worth)
                self.places.add(("newer", self.newer.place(key)))
            self.moved += 1
            if self.moved == len(self.elder.rows):
                self.elder = None
                self.moved = 0

    def begin(self):
        if self.elder is not None:
            return
        size = len(self.newer.rows)
        if self.newer.many() > size and size < 4096:
            self.elder, self.newer = self.newer, PlainShelf(size * 2, self.mixer)
        elif self.newer.many() * 8 < size and size > 4:
            self.elder, self.newer = self.newer, PlainShelf(size // 2, self.mixer)

    def state(self):
        elder = None if self.elder is None else rows(self.elder)
        return (elder, self.moved, rows(self.newer))

    def many(self):
        return self.newer.many() + (0 if self.elder is None else self.elder.many())

    def touched(self):
        return len(self.places)

    def sizes(self):
        return (None if self.elder is None else len(self.elder.rows), len(self.newer.rows))


def rows(shelf):
    return tuple(tuple(row) for row in shelf.rows)


@functools.cache
def stretches(size):
    """The places of a size with their least and greatest points, in the order of these."""
    found = []
    for place in range(size):
        points = POINTS[place::size]
        found.append((min(points), max(points), place))
    return sorted(found)


def plain_step(state, cursor):
    """The document's words on a step once more, read off a state."""
    shelves = sorted([shelf for shelf in (state[0], state[2]) if shelf is not None], key=len)
    lesser = shelves[0]
    first, last, place = [found for found in stretches(len(lesser)) if found[0] <= cursor <= found[1]][0]
    pairs = list(lesser[place])
    for greater in shelves[1:]:
        for start, end, part in stretches(len(greater)):
            if first <= start and end <= last and end >= cursor:
                pairs.extend(greater[part])
    return (0 if last == 65535 else last + 1, pairs)


def laid(size, mixer, pairs):
    """A shelf of a state: the pairs in this order, each in the row of its key's place."""
    shelf = PlainShelf(size, mixer)
    for key, worth in pairs:
        shelf.put(key, worth)
    return rows(shelf)


def one_shelf(size, mixer, keys):
    return (None, 0, laid(size, mixer, [(key, key + 1) for key in keys]))


def two_shelves(sizes, moved, mixer, keys):
    """A state of a table that moves: of the keys every third, and all whose place is moved, are on the newer shelf."""
    elder, newer = [], []
    for number, key in enumerate(keys):
        gone = number % 3 == 2 or mark(key, mixer) % sizes[0] < moved
        (newer if gone else elder).append((key, key + 1))
    return (laid(sizes[0], mixer, elder), moved, laid(sizes[1], mixer, newer))


def pairs_of(state):
    shelves = [shelf for shelf in (state[0], state[2]) if shelf is not None]
    return [pair for shelf in shelves for row in shelf for pair in row]


def settle(table):
    """Looks till the table doesn't move, but no more than the longest row of moves takes."""
    for turn in range(8192):
        if table.sizes()[0] is None:
            return
        table.look(0)


def told_by_dict(plain, deed):
    before = plain.get(deed[1])
    if deed[0] == "put":
        plain[deed[1]] = deed[2]
    elif deed[0] == "cut":
        plain.pop(deed[1], None)
    return before


def numbers(start):
    """An endless row of numbers from 0 to 65535, the same for the same start."""
    number = start
    while True:
        number = (number * 1103515245 + 12345) % 2 ** 31
        yield number // 2 ** 15


def waves(start, many, keys, heights):
    """Deeds of all kinds by which a table grows to each of the heights in turn and is then all but emptied."""
    drawn = numbers(start)
    there = {}
    deeds = []
    for height in itertools.cycle(heights):
        for goal in (height, next(drawn) % 3):
            while len(there) != goal:
                if len(deeds) == many:
                    return deeds
                deeds.append(deed_towards(goal, there, keys, drawn))
                told_by_dict(there, deeds[-1])


def deed_towards(goal, there, keys, drawn):
    choice = next(drawn) % 8
    worth = next(drawn) % 7 - 3
    key = keys[next(drawn) % len(keys)]
    held = list(there)[next(drawn) % len(there)] if there else key
    if choice == 0:
        return ("look", held)
    if choice == 1:
        return (("look", key), ("put", held, worth), ("cut", key))[next(drawn) % 3]
    return ("put", key, worth) if len(there) < goal else ("cut", held)


def with_steps(deeds, start, often):
    """These deeds, with one or two steps ahead of every second, third .. of them, more or less."""
    drawn = numbers(start)
    mixed = []
    for deed in deeds:
        if next(drawn) % often == 0:
            mixed.extend([("step",)] * (1 + next(drawn) % 2))
        mixed.append(deed)
    return mixed
