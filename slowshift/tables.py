"""Tables: worths by keys on one shelf, or on two while places are moved from the elder to the newer."""

from slowshift.kinds import SIZES
from slowshift.shelves import Shelf

EMPTY = (None, 0, ((), (), (), ()))


class Table:
    def __init__(self, mixer, pace, state):
        laid = EMPTY if state is None else state
        self.mixer = mixer
        self.pace = pace
        self.elder = None if laid[0] is None else shelf_of(laid[0], mixer)
        self.moved = laid[1]
        # While the table doesn't move, the newer shelf is the one shelf.
        self.newer = shelf_of(laid[2], mixer)
        self.touches = 0

    def put(self, key, worth):
        self.go_on(key)
        told = self.shelf_with(key).put(key, worth)
        self.begin_move()
        return told

    def cut(self, key):
        self.go_on(key)
        told = self.shelf_with(key).cut(key)
        self.begin_move()
        return told

    def look(self, key):
        self.go_on(key)
        told = self.shelf_with(key).look(key)
        # A look changes no count, but it may end a move behind which the next one is due.
        self.begin_move()
        return told

    def state(self):
        elder = None if self.elder is None else rows_of(self.elder)
        return (elder, self.moved, rows_of(self.newer))

    def many(self):
        return sum([shelf.many() for shelf in self.shelves()])

    def touched(self):
        return self.touches

    def sizes(self):
        return (None if self.elder is None else self.elder.size(), self.newer.size())

    def shelves(self):
        return [self.newer] if self.elder is None else [self.elder, self.newer]

    def go_on(self, key):
        due = self.due_places()
        reached = [self.newer.place_with(key)]
        for place in due:
            reached.extend(self.move_place(place))
        self.moved += len(due)
        self.end_move()
        # Counted behind the end of the move: the elder shelf that has gone isn't touched for the key.
        asked_elder = 1 if self.stands_on_elder(key) else 0
        self.touches = len(due) + len(set(reached)) + asked_elder

    def due_places(self):
        if self.elder is None:
            return []
        return list(range(self.moved, min(self.moved + self.pace, self.elder.size())))

    def move_place(self, place):
        pairs = self.elder.empty(place)
        for key, worth in pairs:
            self.newer.put(key, worth)
        return [self.newer.place_with(pair[0]) for pair in pairs]

    def end_move(self):
        if self.elder is not None and self.moved == self.elder.size():
            self.elder = None
            self.moved = 0

    def stands_on_elder(self, key):
        return self.elder is not None and self.elder.place_with(key) >= self.moved

    def shelf_with(self, key):
        # A place that isn't moved yet is no sign: a key that came during the move is on the newer shelf.
        if self.elder is not None and self.elder.look(key) is not None:
            return self.elder
        return self.newer

    def begin_move(self):
        if self.elder is not None:
            return
        size = self.wanted_size()
        if size != self.newer.size():
            self.elder = self.newer
            self.newer = Shelf(size, self.mixer)

    def wanted_size(self):
        size = self.newer.size()
        if self.newer.many() > size:
            return min(size * 2, SIZES[-1])
        if self.newer.many() * 8 < size:
            return max(size // 2, SIZES[0])
        return size


def shelf_of(rows, mixer):
    shelf = Shelf(len(rows), mixer)
    for row in rows:
        for key, worth in row:
            shelf.put(key, worth)
    return shelf


def rows_of(shelf):
    return tuple([tuple(shelf.row(place)) for place in range(shelf.size())])
