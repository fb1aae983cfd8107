import unittest

from slowshift.bounds import done, late_row
from slowshift.errors import NoState
from slowshift.states import first_fault, is_sound, table_of
from slowshift.tables import Table
from slowshift.walks import step

from tests.helpers import (
    GREATEST, MIXERS, ONE_PLACE, PLAIN, SIZES, PlainTable, laid, mark, numbers, one_shelf, pairs_of, two_shelves,
    waves,
)

PACES = (1, 2, 3, 4, 5, 6, 7, 8)
KEYS = list(range(150))
SPREAD = (40503, 12345)
EMPTY = ((), (), (), ())


def plain_fault(state, mixer):
    """The document's words on faults once more: all of them are gathered, the first is told."""
    elder, moved, newer = state
    shelves = [("newer", newer)] if elder is None else [("elder", elder), ("newer", newer)]
    if any(len(rows) not in SIZES for name, rows in shelves):
        return ("places",)
    if elder is not None and sorted([len(elder) * 2, len(elder) // 2]).count(len(newer)) == 0:
        return ("places",)
    if moved not in range(1 if elder is None else len(elder)):
        return ("moved",)
    pairs = [(name, len(rows), place, pair[0])
             for name, rows in shelves for place, row in enumerate(rows) for pair in row]
    keys = [pair[3] for pair in pairs]
    faults = []
    for number, (name, size, place, key) in enumerate(pairs):
        faults += [("place", name, place)] if mark(key, mixer) % size != place else []
        faults += [("emptied", name, place)] if name == "elder" and place < moved else []
        faults += [("twice", name, place)] if key in keys[:number] else []
    return faults[0] if faults else None


def rows_with(size, placed):
    """A shelf of a state with these pairs in just these rows, wherever they belong."""
    return tuple(tuple(placed.get(place, ())) for place in range(size))


def sound_states(mixer):
    yield one_shelf(4, mixer, ())
    yield one_shelf(4, mixer, (9, 5, 1))
    yield one_shelf(4, mixer, range(300))
    for size in SIZES:
        yield one_shelf(size, mixer, range(40))
    for size in SIZES[:-1]:
        for moved in (0, 1, size // 2, size - 1):
            yield two_shelves((size, size * 2), moved, mixer, range(40))
            yield two_shelves((size * 2, size), moved, mixer, range(40))
    yield two_shelves((4096, 2048), 4095, mixer, range(60))
    yield two_shelves((8, 4), 7, mixer, ())
    yield (None, 0, laid(4, mixer, [(0, -GREATEST), (GREATEST, GREATEST), (1, 0)]))


class FaultTest(unittest.TestCase):
    def fault(self, expected, state, mixer=PLAIN):
        self.assertEqual(first_fault(state, mixer), expected)
        self.assertEqual(plain_fault(state, mixer), expected)
        self.assertIs(is_sound(state, mixer), expected is None)
        if expected is not None:
            with self.assertRaises(NoState):
                table_of(state, mixer, 3)


class SoundTest(FaultTest):
    def test_sound_states(self):
        for mixer in MIXERS:
            for state in sound_states(mixer):
                self.assertIsNone(first_fault(state, mixer))
                self.assertIs(is_sound(state, mixer), True)

    def test_arguments_by_their_names(self):
        state = (None, 0, EMPTY)
        self.assertIsNone(first_fault(state=state, mixer=PLAIN))
        self.assertIs(is_sound(state=state, mixer=PLAIN), True)
        self.assertEqual(table_of(state=state, mixer=PLAIN, pace=1).state(), state)

    def test_the_mixer_matters(self):
        state = one_shelf(8, SPREAD, range(30))
        self.fault(None, state, SPREAD)
        self.fault(plain_fault(state, PLAIN), state, PLAIN)
        self.assertEqual(first_fault(state, PLAIN)[0], "place")
        self.fault(None, (None, 0, EMPTY), SPREAD)


class PlacesTest(FaultTest):
    def test_as_many_rows_as_no_size(self):
        for many in (0, 1, 2, 3, 5, 6, 7, 9, 12, 15, 17, 4095, 4097, 6144, 8192):
            self.fault(("places",), (None, 0, ((),) * many))

    def test_as_many_rows_as_a_size(self):
        for size in SIZES:
            self.fault(None, (None, 0, ((),) * size))

    def test_two_shelves(self):
        many = (0, 1, 2, 3, 4, 5, 6, 8, 10, 12, 16, 24, 32, 64, 2048, 4096, 8192)
        for elder in many:
            for newer in many:
                fits = elder in SIZES and newer in SIZES and (elder == newer * 2 or newer == elder * 2)
                self.fault(None if fits else ("places",), (((),) * elder, 0, ((),) * newer))

    def test_each_size_with_half_and_double(self):
        for size in SIZES:
            self.fault(None if size > 4 else ("places",), (((),) * size, 0, ((),) * (size // 2)))
            self.fault(None if size < 4096 else ("places",), (((),) * size, 0, ((),) * (size * 2)))
            self.fault(("places",), (((),) * size, 0, ((),) * size))
            self.fault(("places",), (((),) * size, 0, ((),) * (size * 4)))


class MovedTest(FaultTest):
    def test_without_an_elder_shelf(self):
        self.fault(None, (None, 0, ((),) * 8))
        for moved in (1, 2, 7, 8, -1, 10 ** 30, -10 ** 30):
            self.fault(("moved",), (None, moved, ((),) * 8))

    def test_with_an_elder_shelf(self):
        for sizes in ((4, 8), (8, 4), (16, 32), (4096, 2048)):
            for moved in (0, 1, 2, sizes[0] // 2, sizes[0] - 1):
                self.fault(None, (((),) * sizes[0], moved, ((),) * sizes[1]))
            for moved in (-1, -2, -sizes[0], sizes[0], sizes[0] + 1, sizes[0] * 2, 10 ** 30, -10 ** 30):
                self.fault(("moved",), (((),) * sizes[0], moved, ((),) * sizes[1]))


class PairsTest(FaultTest):
    def test_a_wrong_row_of_one_shelf(self):
        for place in range(8):
            for key in (0, 3, 7, 8, 15, 12):
                state = (None, 0, rows_with(8, {place: [(key, 0)]}))
                self.fault(None if key % 8 == place else ("place", "newer", place), state)

    def test_a_wrong_row_of_two_shelves(self):
        for sizes in ((4, 8), (8, 4)):
            for place in range(4):
                for key in (0, 5, 6, 11):
                    elder = (rows_with(sizes[0], {place: [(key, 0)]}), 0, rows_with(sizes[1], {}))
                    right = key % sizes[0] == place
                    self.fault(None if right else ("place", "elder", place), elder)
                    newer = (rows_with(sizes[0], {}), 0, rows_with(sizes[1], {place: [(key, 0)]}))
                    right = key % sizes[1] == place
                    self.fault(None if right else ("place", "newer", place), newer)

    def test_the_place_is_that_on_the_pairs_own_shelf(self):
        # Of key 6 the place is 2 among four and 6 among eight.
        self.fault(("place", "elder", 6), (rows_with(8, {2: [(2, 0)], 6: [(2, 0)]}), 0, EMPTY))
        self.fault(None, (rows_with(8, {6: [(6, 0)]}), 0, EMPTY))
        self.fault(None, (rows_with(8, {}), 0, rows_with(4, {2: [(6, 0)]})))
        self.fault(("place", "elder", 2), (rows_with(8, {2: [(6, 0)]}), 0, EMPTY))

    def test_a_row_that_is_moved(self):
        for moved in range(8):
            for place in range(8):
                for newer in (4, 16):
                    state = (rows_with(8, {place: [(place + 16, 5)]}), moved, rows_with(newer, {}))
                    self.fault(("emptied", "elder", place) if place < moved else None, state)

    def test_a_row_of_the_newer_shelf_is_never_moved(self):
        for moved in range(4):
            self.fault(None, (EMPTY, moved, laid(8, PLAIN, [(key, 0) for key in range(8)])))

    def test_twice_in_one_row(self):
        self.fault(("twice", "newer", 1), (None, 0, rows_with(4, {1: [(5, 1), (5, 1)]})))
        self.fault(("twice", "newer", 1), (None, 0, rows_with(4, {1: [(5, 1), (9, 1), (5, 2)]})))
        self.fault(("twice", "elder", 1), (rows_with(4, {1: [(5, 1), (5, 1)]}), 0, rows_with(8, {})))
        self.fault(("twice", "newer", 5), (rows_with(4, {}), 0, rows_with(8, {5: [(5, 1), (5, 1)]})))

    def test_twice_in_two_rows_is_a_wrong_row_in_one_of_them(self):
        self.fault(("place", "newer", 2), (None, 0, rows_with(4, {1: [(5, 1)], 2: [(5, 1)]})))
        self.fault(("place", "newer", 0), (None, 0, rows_with(4, {1: [(5, 1)], 0: [(5, 1)]})))

    def test_on_both_shelves(self):
        for elder, newer in (((4, 1), (8, 5)), ((8, 5), (4, 1))):
            state = (rows_with(elder[0], {elder[1]: [(5, 1)]}), 0, rows_with(newer[0], {newer[1]: [(5, 1)]}))
            self.fault(("twice", "newer", newer[1]), state)
            state = (rows_with(elder[0], {elder[1]: [(5, 1)]}), 0, rows_with(newer[0], {newer[1]: [(5, 2)]}))
            self.fault(("twice", "newer", newer[1]), state)

    def test_one_worth_for_two_keys_is_no_fault(self):
        self.fault(None, (None, 0, rows_with(4, {1: [(5, 1), (9, 1)], 2: [(2, 1)]})))


class WhichIsFirstTest(FaultTest):
    def test_places_ahead_of_all(self):
        bad = {0: [(1, 0), (1, 0)]}
        self.fault(("places",), (rows_with(5, bad), 9, rows_with(4, bad)))
        self.fault(("places",), (rows_with(4, bad), 9, rows_with(4, bad)))
        self.fault(("places",), (rows_with(4, bad), -1, rows_with(3, bad)))
        self.fault(("places",), (None, 1, rows_with(3, bad)))

    def test_moved_ahead_of_the_pairs(self):
        bad = {0: [(1, 0), (1, 0)]}
        self.fault(("moved",), (rows_with(8, bad), 8, rows_with(4, bad)))
        self.fault(("moved",), (rows_with(8, bad), -1, rows_with(4, bad)))
        self.fault(("moved",), (None, 1, rows_with(4, bad)))

    def test_of_one_pair_place_then_emptied_then_twice(self):
        newer = rows_with(8, {})
        self.fault(("place", "elder", 0), (rows_with(4, {0: [(1, 0)]}), 1, newer))
        self.fault(("place", "elder", 0), (rows_with(4, {0: [(1, 0), (1, 0)]}), 1, newer))
        self.fault(("emptied", "elder", 0), (rows_with(4, {0: [(4, 0), (4, 0)]}), 1, newer))
        self.fault(("twice", "elder", 0), (rows_with(4, {0: [(4, 0), (4, 0)]}), 0, newer))
        # Of the second pair of a row that isn't moved: it is in a wrong row, and there twice.
        self.fault(("place", "elder", 1), (rows_with(4, {0: [(4, 0)], 1: [(4, 0)]}), 0, newer))
        self.fault(("place", "newer", 1), (rows_with(4, {0: [(4, 0)]}), 0, rows_with(8, {1: [(4, 0)]})))

    def test_pair_by_pair_not_fault_by_fault(self):
        newer = rows_with(8, {})
        self.fault(("twice", "elder", 0), (rows_with(4, {0: [(4, 0), (4, 0)], 1: [(2, 0)]}), 0, newer))
        self.fault(("twice", "elder", 0), (rows_with(4, {0: [(4, 0), (4, 0), (1, 0)]}), 0, newer))
        self.fault(("place", "elder", 0), (rows_with(4, {0: [(1, 0), (4, 0), (4, 0)]}), 0, newer))
        self.fault(("emptied", "elder", 0), (rows_with(4, {0: [(4, 0)], 1: [(2, 0)]}), 2, newer))
        self.fault(("emptied", "elder", 0), (rows_with(4, {0: [(4, 0), (1, 0)]}), 2, newer))
        self.fault(("place", "elder", 0), (rows_with(4, {0: [(1, 0)], 1: [(5, 0)]}), 2, newer))
        self.fault(("place", "elder", 2), (rows_with(4, {2: [(6, 0), (3, 0)], 3: [(3, 0), (3, 0)]}), 2, newer))

    def test_by_places(self):
        rows = rows_with(8, {1: [(2, 0)], 4: [(4, 0), (4, 0)], 7: [(0, 0)]})
        self.fault(("place", "newer", 1), (None, 0, rows))
        rows = rows_with(8, {2: [(2, 0)], 4: [(4, 0), (4, 0)], 7: [(0, 0)]})
        self.fault(("twice", "newer", 4), (None, 0, rows))
        self.fault(("place", "newer", 7), (None, 0, rows_with(8, {7: [(7, 0), (0, 0), (7, 0)]})))

    def test_the_elder_shelf_ahead_of_the_newer(self):
        bad = rows_with(8, {0: [(1, 0)]})
        self.fault(("twice", "elder", 3), (rows_with(4, {3: [(3, 0), (3, 0)]}), 0, bad))
        self.fault(("emptied", "elder", 2), (rows_with(4, {2: [(2, 0)]}), 3, bad))
        self.fault(("place", "elder", 3), (rows_with(4, {3: [(2, 0)]}), 0, bad))
        self.fault(("place", "newer", 0), (rows_with(4, {3: [(3, 0)]}), 3, bad))

    def test_a_pair_in_a_wrong_row_was_still_a_pair_ahead(self):
        state = (rows_with(4, {3: [(5, 0)]}), 0, rows_with(8, {5: [(5, 0)]}))
        self.fault(("place", "elder", 3), state)


class NumbersOfAnySizeTest(unittest.TestCase):
    def test_first_fault_looks_at_keys_of_any_size(self):
        for key in (-1, -5, -65537, GREATEST + 1, 10 ** 40, -10 ** 40):
            for mixer in ((1, 0), (40503, 12345), ONE_PLACE):
                for size in (4, 8, 4096):
                    place = mark(key, mixer) % size
                    state = (None, 0, rows_with(size, {place: [(key, 0)]}))
                    self.assertIsNone(first_fault(state, mixer))
                    self.assertIs(is_sound(state, mixer), False)
                    other = (place + 1) % size
                    state = (None, 0, rows_with(size, {other: [(key, 0)]}))
                    self.assertEqual(first_fault(state, mixer), ("place", "newer", other))
                    state = (None, 0, rows_with(size, {place: [(key, 0), (key, 1)]}))
                    self.assertEqual(first_fault(state, mixer), ("twice", "newer", place))
                    self.assertIs(is_sound(state, mixer), False)

    def test_first_fault_looks_at_worths_of_any_size(self):
        for worth in (GREATEST + 1, -GREATEST - 1, 10 ** 40, -10 ** 40):
            for state in self.states(2, worth):
                self.assertIsNone(first_fault(state, PLAIN))
                self.assertIs(is_sound(state, PLAIN), False)

    def states(self, key, worth):
        pairs = [(1, 1), (key, worth), (3, 3)]
        yield (None, 0, laid(4, PLAIN, pairs))
        yield (laid(4, PLAIN, pairs), 0, laid(8, PLAIN, []))
        yield (laid(4, PLAIN, []), 2, laid(8, PLAIN, pairs))

    def test_the_bounds_themselves(self):
        for key, worth in ((0, 0), (GREATEST, 0), (2, GREATEST), (2, -GREATEST), (GREATEST, -GREATEST)):
            for state in self.states(key, worth):
                self.assertIs(is_sound(state, PLAIN), True)
        for key, worth in ((-1, 0), (GREATEST + 1, 0), (2, GREATEST + 1), (2, -GREATEST - 1), (-GREATEST, 0)):
            for state in self.states(key, worth):
                self.assertIs(is_sound(state, PLAIN), False)
                with self.assertRaises(NoState):
                    table_of(state, PLAIN, 1)


class ChangedStatesTest(unittest.TestCase):
    """States of tables with a pair or two laid elsewhere, against the document's words."""

    def test_as_the_plain_words(self):
        found = {}
        for start in range(700):
            mixer = MIXERS[start % len(MIXERS)]
            table = PlainTable(mixer, start % 4 + 1)
            drawn = numbers(start)
            for deed in waves(start, 20 + next(drawn) % 60, KEYS, (3, 20, 9)):
                table.done(deed)
            for turn in range(5):
                state = self.changed(table.state(), drawn)
                expected = plain_fault(state, mixer)
                self.assertEqual(first_fault(state, mixer), expected)
                self.assertIs(is_sound(state, mixer), expected is None)
                word = expected and expected[0]
                found[word] = found.get(word, 0) + 1
        for word in (None, "moved", "place", "emptied", "twice"):
            self.assertGreater(found[word], 20)

    def changed(self, state, drawn):
        elder, moved, newer = state
        rows = [list(row) for row in (elder or ()) + newer]
        for turn in range(next(drawn) % 3):
            full = [row for row in rows if row]
            if full:
                row = full[next(drawn) % len(full)]
                pair = row[next(drawn) % len(row)] if next(drawn) % 2 else row.pop()
                goal = rows[next(drawn) % len(rows)] if next(drawn) % 2 else row
                goal.insert(next(drawn) % (len(goal) + 1), pair)
        if next(drawn) % 3 == 0:
            moved += next(drawn) % 5 - 2
        rows = tuple(tuple(row) for row in rows)
        parted = len(elder or ())
        return (None if elder is None else rows[:parted], moved, rows[parted:])


class Odd:
    """A thing that is like nothing and refuses whatever is asked of it."""

    def refuse(self, *others):
        raise RuntimeError("not to be asked")

    __eq__ = __ne__ = __lt__ = __le__ = __gt__ = __ge__ = refuse
    __hash__ = __len__ = __iter__ = __getitem__ = __contains__ = __bool__ = __index__ = __int__ = refuse
    __add__ = __mul__ = __mod__ = __str__ = __repr__ = refuse


def other_things():
    yield from (None, True, False, 0, 1, 3, -1, 10 ** 5000, "", "abc", "None", [], {}, set(), (), b"abc", bytes(3))
    yield from (object(), Odd(), int, len, range(3), iter(()), ValueError("x"), {1: 2}, [None, 0, EMPTY], complex(1, 2))
    yield from ((None,), (None, 0), (None, 0, EMPTY, ()), (None, 0, EMPTY, None), (0, None, EMPTY), (EMPTY, 0, None))


class AnythingTest(unittest.TestCase):
    def refused(self, thing, mixer=PLAIN):
        self.assertIs(is_sound(thing, mixer), False)
        for pace in (1, 8):
            with self.assertRaises(NoState):
                table_of(thing, mixer, pace)

    def test_what_is_no_state(self):
        for thing in other_things():
            self.refused(thing)

    def test_something_else_for_the_elder_shelf(self):
        for thing in other_things():
            if thing is not None:
                self.refused((thing, 0, EMPTY))
                self.refused((thing, 0, ((),) * 8))

    def test_something_else_for_moved(self):
        for thing in other_things():
            if thing.__class__ is not int or thing not in (0, 1, 3):
                self.refused((None, thing, EMPTY))
                self.refused((((),) * 8, thing, EMPTY))

    def test_something_else_for_the_newer_shelf(self):
        for thing in other_things():
            self.refused((None, 0, thing))
            self.refused((((),) * 8, 0, thing))

    def test_something_else_for_a_row(self):
        for thing in other_things():
            if not (thing.__class__ is tuple and thing == ()):
                for place in range(4):
                    rows = EMPTY[:place] + (thing,) + EMPTY[place + 1:]
                    self.refused((None, 0, rows))
                    self.refused((rows, 0, ((),) * 8))
                    self.refused((((),) * 8, 0, rows))

    def test_something_else_for_a_pair(self):
        for thing in other_things():
            for row in ((thing,), ((1, 2), thing), (thing, (1, 2))):
                self.refused((None, 0, ((), row, (), ())))
                self.refused((((), row, (), ()), 0, ((),) * 8))
                self.refused((((),) * 8, 0, ((), row, (), ())))

    def test_something_else_for_a_key_or_a_worth(self):
        for thing in other_things():
            if not (thing.__class__ is int and -1 <= thing <= 3):
                for pair in ((thing, 0), (0, thing)):
                    self.refused((None, 0, ((), (), (pair,), ())), ONE_PLACE)
                    self.refused((((), (), (pair,), ()), 0, ((),) * 8), ONE_PLACE)
                    self.refused((((),) * 8, 0, ((), (), (pair,), ())), ONE_PLACE)

    def test_truths_for_numbers(self):
        for truth, number in ((True, 1), (False, 0)):
            key = number % 4
            for wrong, right in (((truth, 5), (number, 5)), ((number, truth), (number, number))):
                for pair, sound in ((wrong, False), (right, True)):
                    self.assertIs(is_sound((None, 0, rows_with(4, {key: [pair]})), PLAIN), sound)
                    self.assertIs(is_sound((rows_with(4, {key: [pair]}), 0, ((),) * 8), PLAIN), sound)
                    self.assertIs(is_sound((EMPTY, 1, rows_with(8, {key: [pair]})), PLAIN), sound)
            self.assertIs(is_sound((EMPTY, truth, ((),) * 8), PLAIN), False)
            self.assertIs(is_sound((EMPTY, number, ((),) * 8), PLAIN), True)
        self.refused((None, False, EMPTY))

    def test_lists_for_tuples_at_each_depth(self):
        state = (((), ((5, 1),), (), ()), 1, ((), (), (), (), (), (), ((6, 2),), ()))
        self.assertIs(is_sound(state, PLAIN), True)
        elder, moved, newer = state
        self.refused(list(state))
        self.refused((list(elder), moved, newer))
        self.refused((elder, moved, list(newer)))
        for place in range(4):
            self.refused((elder[:place] + (list(elder[place]),) + elder[place + 1:], moved, newer))
        for place in range(8):
            self.refused((elder, moved, newer[:place] + (list(newer[place]),) + newer[place + 1:]))
        self.refused((((), ([5, 1],), (), ()), moved, newer))
        self.refused((elder, moved, newer[:6] + (([6, 2],), ())))
        self.refused((None, 0, [(), (), (), ()]))
        self.refused((None, 0, ([], [], [], [])))

    def test_tuples_with_a_part_more_or_less(self):
        for pair in ((), (5,), (5, 1, 1), (5, 1, None)):
            self.refused((None, 0, rows_with(4, {1: [pair]})))
            self.refused((None, 0, rows_with(4, {1: [(9, 1), pair]})))
            self.refused((rows_with(4, {1: [pair]}), 0, ((),) * 8))
            self.refused((EMPTY, 2, rows_with(8, {5: [pair]})))
        for state in ((), (None,), (None, 0), (0, EMPTY), (None, EMPTY), (None, 0, EMPTY, EMPTY), (None, 0, 0, EMPTY)):
            self.refused(state)

    def test_texts_for_tuples(self):
        for thing in ("", "abcd", "....", "ab"):
            self.refused((None, 0, thing))
            self.refused((None, 0, ((), (), (), thing)))
            self.refused((thing, 0, EMPTY))
            self.refused((None, 0, ((), (), (), (thing,))))

    def test_a_wrong_kind_in_a_state_that_has_a_fault_too(self):
        self.refused((None, 5, ((1,),)))
        self.refused((((),) * 5, None, ()))
        self.refused((EMPTY, 9, (((1, "1"),),) * 8))

    def test_asking_changes_nothing(self):
        for thing in ([None, 0, EMPTY], (None, 0, [[(1, 2)], []]), {1: 2}, ([[], []], [3], [{}])):
            written = repr(thing)
            self.refused(thing)
            self.assertEqual(repr(thing), written)
        for state in (one_shelf(8, PLAIN, range(9)), two_shelves((8, 4), 3, PLAIN, range(9))):
            written = repr(state)
            first_fault(state, PLAIN)
            is_sound(state, PLAIN)
            self.assertEqual(repr(state), written)


class TablesAreSoundTest(unittest.TestCase):
    def test_behind_deeds_of_all_kinds(self):
        for pace in PACES:
            for number, mixer in enumerate(MIXERS):
                table = Table(mixer, pace, None)
                self.assertIs(is_sound(table.state(), mixer), True)
                moving = 0
                for deed in waves(pace * 7 + number, 500, KEYS, (5, 70, 9, 33)):
                    done(table, deed)
                    self.assertIs(is_sound(table.state(), mixer), True)
                    self.assertIsNone(first_fault(table.state(), mixer))
                    moving += table.sizes()[0] is not None
                self.assertTrue(20 < moving < 480)

    def test_through_the_greatest_sizes(self):
        for pace in (1, 8):
            table = Table(SPREAD, pace, None)
            deeds = [("put", key, key) for key in range(2100)] + [("cut", key) for key in range(900)]
            for number, deed in enumerate(deeds):
                done(table, deed)
                if number % 37 == 0:
                    self.assertIs(is_sound(table.state(), SPREAD), True)

    def test_late_tables(self):
        for pace in (1, 2):
            for mixer in MIXERS:
                table = Table(mixer, pace, None)
                for deed in late_row(pace) + [("look", key) for key in range(60)]:
                    done(table, deed)
                    self.assertIs(is_sound(table.state(), mixer), True)

    def test_tables_made_of_states(self):
        for mixer in (PLAIN, ONE_PLACE, SPREAD):
            for number, state in enumerate(sound_states(mixer)):
                table = table_of(state, mixer, number % 8 + 1)
                for turn, deed in enumerate(waves(number, 40, KEYS, (10, 4))):
                    done(table, deed)
                    if table.sizes()[1] < 200 or turn == 39:
                        self.assertIs(is_sound(table.state(), mixer), True)


class TableOfTest(unittest.TestCase):
    def test_has_just_this_state(self):
        for mixer in MIXERS:
            for state in sound_states(mixer):
                for pace in (1, 8):
                    table = table_of(state, mixer, pace)
                    self.assertIs(type(table), Table)
                    self.assertTrue(table.state() == state)
                    elder = None if state[0] is None else len(state[0])
                    self.assertEqual(table.sizes(), (elder, len(state[2])))
                    self.assertEqual(table.many(), len(pairs_of(state)))
                    self.assertEqual(table.touched(), 0)

    def test_three_thousand_pairs(self):
        for mixer in (ONE_PLACE, SPREAD):
            for state in (one_shelf(4, mixer, range(3000)), two_shelves((4096, 2048), 9, mixer, range(3000))):
                table = table_of(state, mixer, 2)
                self.assertTrue(table.state() == state)
                self.assertEqual(table.many(), 3000)

    def test_goes_on_as_the_table_that_told_the_state(self):
        for pace in PACES:
            for number, mixer in enumerate(MIXERS):
                deeds = waves(pace + number, 300, KEYS, (5, 30, 90, 12))
                for parted in range(0, 300, 37):
                    one = Table(mixer, pace, None)
                    for deed in deeds[:parted]:
                        done(one, deed)
                    other = table_of(one.state(), mixer, pace)
                    self.assertEqual(other.touched(), 0)
                    self.goes_on(one, other, deeds[parted:parted + 90])

    def goes_on(self, one, other, deeds):
        self.assertTrue(one.state() == other.state())
        for number, deed in enumerate(deeds):
            cursor = number * 7919 % 65536
            self.assertEqual(step(one, cursor), step(other, cursor))
            self.assertEqual(done(one, deed), done(other, deed))
            self.assertEqual(one.touched(), other.touched())
            self.assertEqual(one.sizes(), other.sizes())
            self.assertEqual(one.many(), other.many())
        self.assertTrue(one.state() == other.state())

    def test_goes_on_by_the_documents_words(self):
        for mixer in MIXERS:
            for number, state in enumerate(sound_states(mixer)):
                pace = number % 8 + 1
                table = table_of(state, mixer, pace)
                plain = PlainTable(mixer, pace, state)
                for deed in waves(number, 60, KEYS, (60,)):
                    self.assertEqual(done(table, deed), plain.done(deed))
                    self.assertEqual((table.touched(), table.sizes()), (plain.touched(), plain.sizes()))
                self.assertTrue(table.state() == plain.state())

    def test_two_tables_of_one_state_share_nothing(self):
        for state in sound_states(PLAIN):
            one = table_of(state, PLAIN, 2)
            other = table_of(state, PLAIN, 2)
            self.assertIsNot(one, other)
            for key in range(20):
                one.put(key, -1)
                one.cut(key + 1)
            self.assertTrue(other.state() == state)

    def test_the_state_handed_in_stays_as_it_was(self):
        for state in (one_shelf(8, PLAIN, range(9)), two_shelves((8, 16), 3, PLAIN, range(15))):
            written = repr(state)
            table = table_of(state, PLAIN, 3)
            for deed in waves(3, 200, KEYS, (50,)):
                done(table, deed)
            self.assertEqual(repr(state), written)

    def test_a_state_of_another_mixer_is_refused_where_it_is_not_sound_by_this_one(self):
        state = one_shelf(8, SPREAD, range(30))
        with self.assertRaises(NoState):
            table_of(state, PLAIN, 1)
        self.assertTrue(table_of(state, SPREAD, 1).state() == state)


if __name__ == "__main__":
    unittest.main()
