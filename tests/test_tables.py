import unittest

from slowshift.tables import Table

from tests.helpers import (
    GREATEST, MIXERS, ONE_PLACE, PLAIN, SIZES, PlainTable, laid, mark, one_shelf, pairs_of, settle, told_by_dict,
    two_shelves, waves,
)

PACES = (1, 2, 3, 4, 5, 6, 7, 8)
KEYS = list(range(150))


def grown(pace, keys, mixer=PLAIN):
    table = Table(mixer, pace, None)
    for key in keys:
        table.put(key, key + 1)
    return table


def rows_with(size, pairs):
    return laid(size, PLAIN, pairs)


# Compared by == where it may be long: to write out how two long tuples differ takes minutes.
def seen(table):
    return (table.state(), table.sizes(), table.many(), table.touched())


def deed_on(table, deed):
    return getattr(table, deed[0])(*deed[1:])


class NewTableTest(unittest.TestCase):
    def test_empty(self):
        for mixer in MIXERS:
            for pace in PACES:
                table = Table(mixer, pace, None)
                self.assertEqual(seen(table), ((None, 0, ((), (), (), ())), (None, 4), 0, 0))

    def test_arguments_by_their_names(self):
        table = Table(mixer=PLAIN, pace=2, state=None)
        self.assertIsNone(table.put(key=3, worth=9))
        self.assertEqual(table.look(key=3), 9)
        self.assertEqual(table.cut(key=3), 9)

    def test_tables_share_nothing(self):
        one = Table(PLAIN, 1, None)
        other = Table(PLAIN, 1, None)
        for key in range(7):
            one.put(key, 1)
        self.assertEqual(seen(other), ((None, 0, ((), (), (), ())), (None, 4), 0, 0))
        self.assertEqual(seen(Table(PLAIN, 1, None)), seen(other))


class DeedsOnOneShelfTest(unittest.TestCase):
    def test_put(self):
        table = Table(PLAIN, 1, None)
        self.assertIsNone(table.put(5, 50))
        self.assertIsNone(table.put(1, 10))
        self.assertEqual(table.put(5, 51), 50)
        self.assertEqual(table.put(5, 52), 51)
        self.assertEqual(table.state(), (None, 0, ((), ((5, 52), (1, 10)), (), ())))
        self.assertEqual(table.many(), 2)

    def test_look(self):
        table = Table(PLAIN, 1, None)
        self.assertIsNone(table.look(5))
        table.put(5, 50)
        self.assertEqual(table.look(5), 50)
        self.assertIsNone(table.look(1))
        self.assertEqual(table.state(), (None, 0, ((), ((5, 50),), (), ())))

    def test_cut(self):
        table = Table(PLAIN, 1, None)
        for key in (1, 5, 9):
            table.put(key, key * 10)
        self.assertIsNone(table.cut(13))
        self.assertEqual(table.cut(5), 50)
        self.assertIsNone(table.cut(5))
        self.assertEqual(table.state(), (None, 0, ((), ((1, 10), (9, 90)), (), ())))
        self.assertEqual(table.many(), 2)

    def test_bounds_of_keys_and_worths(self):
        table = Table((65535, 65535), 8, None)
        for key in (0, GREATEST):
            for worth in (GREATEST, -GREATEST):
                table.put(key, worth)
                self.assertEqual(table.look(key), worth)
        self.assertEqual(table.many(), 2)


class WorthNoughtTest(unittest.TestCase):
    """Worth 0 and worths below 0 are worths, on either shelf."""

    def states(self, worth):
        elder = rows_with(8, [(7, worth), (15, worth)])
        yield (None, 0, rows_with(8, [(7, worth), (15, worth)]))
        yield (elder, 0, rows_with(16, []))
        yield (elder, 0, rows_with(4, []))
        yield (rows_with(8, []), 0, rows_with(16, [(7, worth), (15, worth)]))
        yield (rows_with(8, []), 0, rows_with(4, [(7, worth), (15, worth)]))

    def test_told_kept_and_moved(self):
        for worth in (0, -1, -GREATEST):
            for state in self.states(worth):
                table = Table(PLAIN, 1, state)
                self.assertEqual(table.look(7), worth)
                self.assertEqual(table.put(7, worth), worth)
                self.assertEqual(table.put(7, 3), worth)
                self.assertEqual(table.put(7, worth), 3)
                self.assertEqual(table.many(), 2)
                self.assertEqual(table.cut(7), worth)
                self.assertIsNone(table.look(7))
                for turn in range(20):
                    self.assertEqual(table.look(15), worth)
                self.assertEqual(pairs_of(table.state()), [(15, worth)])

    def test_a_key_on_the_elder_shelf_stays_there(self):
        for worth in (0, -1):
            table = Table(PLAIN, 1, (rows_with(8, [(7, worth)]), 0, rows_with(16, [])))
            table.put(7, worth)
            self.assertEqual(table.state(), (rows_with(8, [(7, worth)]), 1, rows_with(16, [])))


class DeedsOnTwoShelvesTest(unittest.TestCase):
    def table(self, newer_size):
        elder = rows_with(8, [(6, 60), (14, 140), (22, 220), (7, 70)])
        return Table(PLAIN, 1, (elder, 2, rows_with(newer_size, [(30, 300), (9, 90)])))

    def test_told_of_keys_on_the_elder_shelf(self):
        for size in (4, 16):
            self.assertEqual(self.table(size).put(14, 1), 140)
            self.assertEqual(self.table(size).look(14), 140)
            self.assertEqual(self.table(size).cut(14), 140)

    def test_told_of_keys_on_the_newer_shelf(self):
        for size in (4, 16):
            for key in (30, 9):
                self.assertEqual(self.table(size).put(key, 1), key * 10)
                self.assertEqual(self.table(size).look(key), key * 10)
                self.assertEqual(self.table(size).cut(key), key * 10)

    def test_told_of_keys_that_are_not_there(self):
        for size in (4, 16):
            for key in (38, 17, 0, 3, 2):
                self.assertIsNone(self.table(size).put(key, 1))
                self.assertIsNone(self.table(size).look(key))
                self.assertIsNone(self.table(size).cut(key))

    def test_a_key_on_the_elder_shelf_is_put_where_it_stands(self):
        for size in (4, 16):
            table = self.table(size)
            table.put(14, 1)
            elder = rows_with(8, [(6, 60), (14, 1), (22, 220), (7, 70)])
            self.assertEqual(table.state(), (elder, 3, rows_with(size, [(30, 300), (9, 90)])))
            self.assertEqual(table.many(), 6)

    def test_a_key_on_the_newer_shelf_is_put_where_it_stands(self):
        for size in (4, 16):
            table = self.table(size)
            elder = table.state()[0]
            table.put(30, 1)
            self.assertEqual(table.state(), (elder, 3, rows_with(size, [(30, 1), (9, 90)])))
            self.assertEqual(table.many(), 6)

    def test_a_new_key_is_put_to_the_newer_shelf(self):
        for size in (4, 16):
            for key in (38, 0):
                table = self.table(size)
                elder = table.state()[0]
                table.put(key, 1)
                self.assertEqual(table.state(), (elder, 3, rows_with(size, [(30, 300), (9, 90), (key, 1)])))
                self.assertEqual(table.many(), 7)

    def test_cuts_on_either_shelf(self):
        for size in (4, 16):
            table = self.table(size)
            table.cut(14)
            elder = rows_with(8, [(6, 60), (22, 220), (7, 70)])
            self.assertEqual(table.state(), (elder, 3, rows_with(size, [(30, 300), (9, 90)])))
            table.cut(30)
            self.assertEqual(table.state(), (elder, 4, rows_with(size, [(9, 90)])))
            self.assertEqual(table.many(), 4)

    def test_a_key_cut_on_the_elder_shelf_comes_back_on_the_newer(self):
        for size in (4, 16):
            table = self.table(size)
            table.cut(14)
            self.assertIsNone(table.put(14, 5))
            elder = rows_with(8, [(6, 60), (22, 220), (7, 70)])
            self.assertEqual(table.state(), (elder, 4, rows_with(size, [(30, 300), (9, 90), (14, 5)])))


class OrderOfADeedTest(unittest.TestCase):
    """The moving comes first, then the deed, then the beginning of a new move."""

    def test_looks_cuts_and_puts_move_places(self):
        for deed in (("look", 7), ("look", 99), ("cut", 99), ("cut", 7), ("put", 7, 1), ("put", 99, 1)):
            for pace in (1, 2, 3):
                begun = (rows_with(16, [(key, key) for key in range(16)]), 0, rows_with(32, []))
                table = Table(PLAIN, pace, begun)
                deed_on(table, deed)
                self.assertEqual(table.state()[1], pace)
                self.assertEqual([list(row) for row in table.state()[0][:pace]], [[]] * pace)

    def test_a_key_in_a_place_that_the_deed_moves_is_put_on_the_newer_shelf(self):
        table = Table(PLAIN, 1, (rows_with(4, [(0, 5), (4, 6)]), 0, rows_with(8, [])))
        self.assertEqual(table.put(0, 7), 5)
        self.assertEqual(table.state(), (rows_with(4, []), 1, rows_with(8, [(0, 7), (4, 6)])))

    def test_moved_pairs_stand_ahead_of_the_deeds_new_one(self):
        table = Table(PLAIN, 1, (rows_with(4, [(0, 5), (8, 6)]), 0, rows_with(8, [])))
        self.assertIsNone(table.put(16, 7))
        self.assertEqual(table.state()[2][0], ((0, 5), (8, 6), (16, 7)))

    def test_moved_pairs_go_behind_those_that_are_there_in_their_rows_order(self):
        table = Table(PLAIN, 1, (rows_with(4, [(24, 1), (8, 2), (16, 3)]), 0, rows_with(8, [(0, 4)])))
        table.look(1)
        self.assertEqual(table.state()[2][0], ((0, 4), (24, 1), (8, 2), (16, 3)))

    def test_pairs_of_two_places_come_together_place_by_place(self):
        table = Table(PLAIN, 8, (rows_with(8, [(12, 1), (8, 2), (4, 3)]), 0, rows_with(4, [(16, 4)])))
        table.look(1)
        self.assertEqual(table.state(), (None, 0, (((16, 4), (8, 2), (12, 1), (4, 3)), (), (), ())))

    def test_a_deed_begins_a_move_but_moves_no_place_of_it(self):
        table = grown(8, range(5))
        elder = laid(4, PLAIN, [(key, key + 1) for key in range(5)])
        self.assertEqual(table.state(), (elder, 0, laid(8, PLAIN, [])))
        table = Table(PLAIN, 8, one_shelf(16, PLAIN, (3, 4)))
        table.cut(4)
        self.assertEqual(table.state(), (laid(16, PLAIN, [(3, 4)]), 0, laid(8, PLAIN, [])))

    def test_the_new_key_that_begins_a_move_stands_on_the_elder_shelf(self):
        table = grown(1, range(4))
        table.put(20, 1)
        self.assertEqual(table.state()[0][0], ((0, 1), (20, 1)))

    def test_the_next_move_begins_in_the_deed_that_ends_one(self):
        elder = laid(4, PLAIN, [(3, 0)])
        newer = [(key, 0) for key in range(8, 15)]
        for deed, there in ((("put", 40, 0), 9), (("put", 8, 0), 8), (("look", 8), 8), (("cut", 8), 7)):
            table = Table(PLAIN, 1, (elder, 3, laid(8, PLAIN, newer)))
            deed_on(table, deed)
            self.assertEqual(table.many(), there)
            self.assertEqual(table.sizes(), (8, 16) if there > 8 else (None, 8))
            self.assertEqual(table.state()[1], 0)

    def test_each_deed_that_ends_a_move_begins_the_next_where_it_is_due(self):
        crowded = [(key, 0) for key in range(11)]
        for deed in (("look", 0), ("look", 99), ("put", 0, 5), ("put", 99, 5), ("cut", 0), ("cut", 99)):
            table = Table(PLAIN, 1, (laid(16, PLAIN, []), 15, laid(8, PLAIN, crowded)))
            deed_on(table, deed)
            self.assertEqual((table.sizes(), table.state()[1]), ((8, 16), 0))
            table = Table(PLAIN, 1, (laid(32, PLAIN, []), 31, laid(64, PLAIN, [(0, 0)])))
            deed_on(table, deed)
            self.assertEqual((table.sizes(), table.state()[1]), ((64, 32), 0))

    def test_no_move_begins_while_one_goes_on(self):
        table = Table(PLAIN, 1, (laid(16, PLAIN, []), 0, laid(8, PLAIN, [])))
        for key in range(15):
            table.put(key, 0)
            self.assertEqual(table.sizes(), (16, 8))
        table = Table(PLAIN, 1, (laid(16, PLAIN, [(key, 0) for key in range(17)]), 0, laid(32, PLAIN, [])))
        for key in range(15):
            table.cut(key)
            self.assertEqual(table.sizes(), (16, 32))


class WhenMovesBeginTest(unittest.TestCase):
    def test_to_the_double_size_with_more_keys_than_places(self):
        for size in SIZES[:-1]:
            table = Table(PLAIN, 1, one_shelf(size, PLAIN, range(size - 1)))
            table.put(size - 1, 0)
            self.assertEqual(table.sizes(), (None, size))
            table.put(size - 1, 1)
            table.look(0)
            self.assertEqual(table.sizes(), (None, size))
            table.put(size, 0)
            self.assertEqual(table.sizes(), (size, size * 2))
            self.assertEqual(table.many(), size + 1)

    def test_none_to_the_double_size_of_4096(self):
        table = Table(PLAIN, 8, one_shelf(4096, PLAIN, range(4096)))
        for key in range(4096, 4100):
            table.put(key, 0)
            self.assertEqual(table.sizes(), (None, 4096))
        self.assertEqual(table.many(), 4100)
        self.assertEqual(len(table.state()[2]), 4096)

    def test_to_half_the_size_with_eight_times_the_keys_fewer_than_places(self):
        for size in SIZES[1:]:
            table = Table(PLAIN, 1, one_shelf(size, PLAIN, range(size // 8 + 1)))
            table.cut(0)
            self.assertEqual(table.sizes(), (None, size))
            table.cut(0)
            table.look(1)
            self.assertEqual(table.sizes(), (None, size))
            table.cut(1)
            self.assertEqual(table.sizes(), (size, size // 2))
            self.assertEqual(table.many(), size // 8 - 1)

    def test_none_to_half_the_size_of_4(self):
        table = grown(1, (1, 2))
        for key in (1, 2, 3):
            table.cut(key)
            self.assertEqual(table.sizes(), (None, 4))
        self.assertEqual(table.state(), (None, 0, ((), (), (), ())))

    def test_looks_begin_moves_of_tables_made_far_too_full_or_too_empty(self):
        table = Table(PLAIN, 1, one_shelf(4, PLAIN, range(40)))
        self.assertEqual(table.sizes(), (None, 4))
        table.look(0)
        self.assertEqual(table.sizes(), (4, 8))
        table = Table(PLAIN, 1, one_shelf(4096, PLAIN, ()))
        table.look(0)
        self.assertEqual(table.sizes(), (4096, 2048))


class WhenMovesEndTest(unittest.TestCase):
    def test_by_each_pace(self):
        for pace in PACES:
            for size in (4, 8, 16, 64):
                for newer in (size // 2, size * 2):
                    if newer > 2:
                        self.moves_through(pace, size, newer)

    def moves_through(self, pace, size, newer):
        keys = list(range(size // 4 + 1))
        table = Table(PLAIN, pace, (laid(size, PLAIN, [(key, key) for key in keys]), 0, laid(newer, PLAIN, [])))
        moved = pace
        while moved < size:
            table.look(0)
            self.assertEqual((table.sizes(), table.state()[1]), ((size, newer), moved))
            self.assertEqual(table.many(), len(keys))
            moved += pace
        table.look(0)
        self.assertEqual((table.sizes(), table.state()[1]), ((None, newer), 0))
        self.assertEqual(table.state(), (None, 0, laid(newer, PLAIN, [(key, key) for key in keys])))

    def test_a_grown_table_by_each_pace(self):
        for pace in PACES:
            table = grown(pace, range(9))
            settle(table)
            self.assertEqual(sorted(pairs_of(table.state())), [(key, key + 1) for key in range(9)])
            self.assertEqual(table.sizes(), (None, 16))


class OnePlaceTest(unittest.TestCase):
    def test_all_keys_have_one_place_through_moves(self):
        for pace in PACES:
            table = grown(pace, range(200), ONE_PLACE)
            self.assertEqual(table.many(), 200)
            settle(table)
            size = table.sizes()[1]
            self.assertEqual(size, 256)
            self.assertEqual([place for place in range(size) if table.state()[2][place]], [6])
            for key in range(200):
                self.assertEqual(table.look(key), key + 1)
            for key in range(200):
                self.assertEqual(table.cut(key), key + 1)
                self.assertEqual(table.many(), 199 - key)


class StateTest(unittest.TestCase):
    def is_of_tuples(self, state):
        self.assertIs(type(state), tuple)
        self.assertEqual(len(state), 3)
        self.assertIs(type(state[1]), int)
        for shelf in (state[0], state[2]):
            if shelf is not None:
                self.assertIs(type(shelf), tuple)
                for row in shelf:
                    self.assertIs(type(row), tuple)
                    for pair in row:
                        self.assertIs(type(pair), tuple)
                        self.assertEqual([type(part) for part in pair], [int, int])

    def test_tuples_all_the_way_down(self):
        self.is_of_tuples(Table(PLAIN, 1, None).state())
        self.is_of_tuples(grown(1, range(4)).state())
        self.is_of_tuples(grown(1, range(7)).state())
        self.is_of_tuples(Table(PLAIN, 1, one_shelf(64, PLAIN, range(9))).state())

    def test_where_it_does_not_move(self):
        table = grown(2, (9, 1, 6, 5))
        self.assertEqual(table.state(), (None, 0, ((), ((9, 10), (1, 2), (5, 6)), ((6, 7),), ())))

    def test_where_it_moves_to_the_double_size(self):
        table = grown(1, (9, 1, 6, 5, 4))
        elder = (((4, 5),), ((9, 10), (1, 2), (5, 6)), ((6, 7),), ())
        self.assertEqual(table.state(), (elder, 0, ((),) * 8))
        table.put(17, 18)
        elder = ((), ((9, 10), (1, 2), (5, 6)), ((6, 7),), ())
        newer = ((), ((17, 18),), (), (), ((4, 5),), (), (), ())
        self.assertEqual(table.state(), (elder, 1, newer))
        table.put(25, 26)
        newer = ((), ((17, 18), (9, 10), (1, 2), (25, 26)), (), (), ((4, 5),), ((5, 6),), (), ())
        self.assertEqual(table.state(), (((), (), ((6, 7),), ()), 2, newer))
        table.look(6)
        newer = ((), ((17, 18), (9, 10), (1, 2), (25, 26)), (), (), ((4, 5),), ((5, 6),), ((6, 7),), ())
        self.assertEqual(table.state(), (((), (), (), ()), 3, newer))
        table.look(6)
        self.assertEqual(table.state(), (None, 0, newer))

    def test_where_it_moves_to_half_the_size(self):
        table = Table(PLAIN, 3, one_shelf(8, PLAIN, (6,)))
        table.cut(6)
        self.assertEqual(table.state(), (((),) * 8, 0, ((),) * 4))
        table.put(6, 1)
        self.assertEqual(table.state(), (((),) * 8, 3, ((), (), ((6, 1),), ())))
        table.put(2, 2)
        self.assertEqual(table.state(), (((),) * 8, 6, ((), (), ((6, 1), (2, 2)), ())))
        table.put(10, 3)
        self.assertEqual(table.state(), (None, 0, ((), (), ((6, 1), (2, 2), (10, 3)), ())))

    def test_a_state_told_earlier_stays_as_it_was_told(self):
        for start in (None, one_shelf(8, PLAIN, range(3)), two_shelves((8, 16), 3, PLAIN, range(20))):
            plain = PlainTable(PLAIN, 1, start)
            table = Table(PLAIN, 1, start)
            told = []
            for deed in waves(5, 300, list(range(60)), (7, 40)):
                told.append((table.state(), plain.state()))
                deed_on(table, deed)
                plain.done(deed)
            self.assertTrue(all(one == other for one, other in told))

    def test_asking_changes_nothing(self):
        table = grown(1, range(7))
        first = seen(table)
        self.assertEqual(seen(table), first)


class TouchedTest(unittest.TestCase):
    def test_none_ahead_of_the_first_deed(self):
        self.assertEqual(Table(PLAIN, 8, None).touched(), 0)
        self.assertEqual(Table(PLAIN, 8, one_shelf(8, PLAIN, range(5))).touched(), 0)
        self.assertEqual(Table(PLAIN, 8, two_shelves((8, 16), 2, PLAIN, range(9))).touched(), 0)

    def test_deeds_without_a_move(self):
        table = Table(PLAIN, 4, None)
        for deed in (("look", 1), ("put", 1, 1), ("put", 1, 2), ("look", 1), ("cut", 9), ("cut", 1)):
            deed_on(table, deed)
            self.assertEqual(table.touched(), 1)

    def test_the_deed_that_begins_a_move(self):
        table = grown(4, range(5))
        self.assertEqual(table.sizes(), (4, 8))
        self.assertEqual(table.touched(), 1)

    def test_a_move_deed_by_deed(self):
        table = grown(1, range(5))
        # Moved is place 0, its pairs go to the places 0 and 4; the key's places are 5, and 1 on the elder shelf.
        table.put(5, 0)
        self.assertEqual(table.touched(), 5)
        # Moved is place 1, its pair goes to place 1; the key's place is 0, and on the elder shelf a moved one.
        table.look(0)
        self.assertEqual(table.touched(), 3)
        # Moved is place 2, its pair goes to place 2, which is the key's, too; on the elder shelf it's moved by now.
        table.look(2)
        self.assertEqual(table.touched(), 2)
        # The last deed of the move: place 3, to place 3; the key's place on the one shelf is 7.
        table.look(7)
        self.assertEqual(table.touched(), 3)
        self.assertEqual(table.sizes(), (None, 8))
        table.look(7)
        self.assertEqual(table.touched(), 1)

    def test_places_without_pairs(self):
        for pace in (1, 2, 3, 7):
            for sizes in ((8, 16), (8, 4)):
                table = Table(PLAIN, pace, (laid(8, PLAIN, []), 0, laid(sizes[1], PLAIN, [])))
                table.look(7)
                self.assertEqual(table.touched(), pace + 2)
                table = Table(PLAIN, pace, (laid(8, PLAIN, []), 0, laid(sizes[1], PLAIN, [])))
                table.look(0)
                self.assertEqual(table.touched(), pace + 1)

    def test_a_place_to_which_several_pairs_are_put_counts_once(self):
        state = (laid(4, PLAIN, [(0, 1), (8, 2), (16, 3)]), 0, laid(8, PLAIN, []))
        for key, touched in ((0, 2), (4, 3), (5, 4), (8, 2)):
            table = Table(PLAIN, 1, state)
            table.look(key)
            self.assertEqual(table.touched(), touched)

    def test_a_place_to_which_two_places_go_counts_once(self):
        state = (laid(8, PLAIN, [(0, 1), (4, 2), (12, 3)]), 0, laid(4, PLAIN, []))
        for key, touched in ((4, 6), (7, 8), (1, 7)):
            table = Table(PLAIN, 5, state)
            table.look(key)
            self.assertEqual(table.touched(), touched)

    def test_the_keys_elder_place_counts_where_it_is_not_moved(self):
        state = (laid(8, PLAIN, []), 2, laid(16, PLAIN, [(15, 0)]))
        for key, touched in ((0, 2), (1, 2), (2, 2), (3, 3), (7, 3), (15, 3), (10, 2)):
            for deed in (("look", key), ("put", key, 1), ("cut", key)):
                table = Table(PLAIN, 1, state)
                deed_on(table, deed)
                self.assertEqual(table.touched(), touched)

    def test_the_last_deed_of_a_move_touches_what_is_left(self):
        for pace in PACES:
            table = Table(PLAIN, pace, (laid(8, PLAIN, []), 7, laid(16, PLAIN, [(3, 0), (4, 0)])))
            table.look(7)
            self.assertEqual(table.sizes(), (None, 16))
            self.assertEqual(table.touched(), 2)

    def test_the_last_deed_of_a_move_that_begins_the_next(self):
        crowded = [(key, 0) for key in range(11)]
        table = Table(PLAIN, 3, (laid(16, PLAIN, [(14, 0), (15, 0)]), 14, laid(8, PLAIN, crowded)))
        table.look(3)
        self.assertEqual(table.sizes(), (8, 16))
        self.assertEqual(table.touched(), 5)

    def test_three_times_the_pace_and_two_are_reached(self):
        for pace in PACES:
            pairs = [(key, 0) for key in range(64)]
            table = Table(PLAIN, pace, (laid(32, PLAIN, pairs), 0, laid(64, PLAIN, [])))
            table.look(63)
            self.assertEqual(table.touched(), pace * 3 + 2)

    def test_refers_to_the_last_deed_alone(self):
        table = grown(2, range(5))
        for turn in range(2):
            table.look(3)
        table.look(3)
        self.assertEqual(table.touched(), 1)
        self.assertEqual(table.touched(), 1)


class LongRowsTest(unittest.TestCase):
    """Long rows of deeds, answered as by a plain dict and by the plain table."""

    def follows(self, table, plain, deeds):
        worths = dict(pairs_of(plain.state()))
        for turn, deed in enumerate(deeds):
            told = deed_on(table, deed)
            self.assertEqual(told, told_by_dict(worths, deed))
            self.assertEqual(told, plain.done(deed))
            self.assertEqual(table.many(), len(worths))
            self.assertEqual(table.sizes(), plain.sizes())
            self.assertEqual(table.touched(), plain.touched())
            self.assertLessEqual(table.touched(), plain.pace * 3 + 2)
            if table.sizes()[1] < 50 or turn % 50 == 0 or turn == len(deeds) - 1:
                self.assertTrue(table.state() == plain.state())
        self.assertEqual(sorted(pairs_of(table.state())), sorted(worths.items()))

    def test_as_the_plain_table(self):
        near = list(range(400))
        far = [GREATEST - number * 65521 for number in range(400)] + [0]
        for pace in PACES:
            for number, mixer in enumerate(MIXERS):
                for keys, heights in ((near, (3, 9, 40, 130)), (far, (17, 34, 260))):
                    deeds = waves(pace * 10 + number, 1500, keys, heights)
                    self.follows(Table(mixer, pace, None), PlainTable(mixer, pace), deeds)

    def test_three_thousand_deeds(self):
        keys = [number * 7919 % 1000003 for number in range(3000)]
        for pace in (1, 2, 3, 8):
            deeds = [("put", key, -key) for key in keys[:1300]] + [("look", key) for key in keys[:200]]
            deeds = deeds + [("cut", key) for key in keys[:1500]]
            self.follows(Table((40503, 12345), pace, None), PlainTable((40503, 12345), pace), deeds)

    def test_up_to_the_greatest_size(self):
        keys = list(range(2050))
        for pace in (1, 8):
            deeds = [("put", key, key % 5) for key in keys] + [("look", key) for key in range(400)]
            deeds = deeds + [("cut", key) for key in range(550)]
            self.follows(Table(PLAIN, pace, None), PlainTable(PLAIN, pace), deeds)

    def test_nothing_is_lost_or_there_twice(self):
        for pace in PACES:
            table = Table((40503, 1), pace, None)
            worths = {}
            for deed in waves(pace, 1200, list(range(300)), (5, 60, 9, 33)):
                deed_on(table, deed)
                told_by_dict(worths, deed)
                state = table.state()
                self.assertEqual(sorted(pairs_of(state)), sorted(worths.items()))
                self.is_laid_right(state, (40503, 1))

    def is_laid_right(self, state, mixer):
        for shelf in (state[0], state[2]):
            for place, row in enumerate(shelf or ()):
                self.assertTrue(all(mark(key, mixer) % len(shelf) == place for key, worth in row))
        self.assertFalse(any((state[0] or ())[:state[1]]))


class MadeOfAStateTest(unittest.TestCase):
    def states(self, mixer):
        yield one_shelf(4, mixer, ())
        yield one_shelf(4, mixer, (9, 5, 1))
        yield one_shelf(8, mixer, range(8))
        yield one_shelf(4, mixer, range(900))
        yield one_shelf(1024, mixer, (4, 3))
        yield one_shelf(4096, mixer, ())
        yield one_shelf(4096, mixer, range(1, 3000, 7))
        yield two_shelves((4, 8), 0, mixer, range(12))
        yield two_shelves((8, 4), 7, mixer, range(20, 3, -1))
        yield two_shelves((16, 8), 3, mixer, range(700))
        yield two_shelves((64, 128), 17, mixer, range(100))
        yield two_shelves((128, 64), 100, mixer, ())
        yield two_shelves((2048, 4096), 2000, mixer, range(30))
        yield two_shelves((4096, 2048), 4095, mixer, range(2900))
        yield two_shelves((4096, 2048), 0, mixer, ())

    def test_has_just_this_state(self):
        for mixer in MIXERS:
            for state in self.states(mixer):
                for pace in (1, 8):
                    table = Table(mixer, pace, state)
                    self.assertTrue(table.state() == state)
                    elder = None if state[0] is None else len(state[0])
                    self.assertEqual(table.sizes(), (elder, len(state[2])))
                    self.assertEqual(table.many(), len(pairs_of(state)))
                    self.assertEqual(table.touched(), 0)

    def test_goes_on_by_the_documents_words(self):
        for number, mixer in enumerate(MIXERS):
            for state in self.states(mixer):
                pace = number + 1
                self.goes_on(Table(mixer, pace, state), PlainTable(mixer, pace, state), waves(number, 120, KEYS, (60,)))

    def goes_on(self, table, other, deeds):
        for deed in deeds:
            self.assertEqual(deed_on(table, deed), other.done(deed))
            self.assertEqual(table.touched(), other.touched())
            self.assertEqual(table.sizes(), other.sizes())
            self.assertEqual(table.many(), other.many())
        self.assertTrue(table.state() == other.state())

    def test_goes_on_as_the_one_that_told_it(self):
        for pace in PACES:
            deeds = waves(pace, 500, KEYS, (5, 30, 90, 12))
            for parted in range(0, 500, 23):
                one = Table((40503, 7), pace, None)
                for deed in deeds[:parted]:
                    deed_on(one, deed)
                other = Table((40503, 7), pace, one.state())
                self.assertEqual(other.state(), one.state())
                for deed in deeds[parted:parted + 150]:
                    self.assertEqual(deed_on(one, deed), deed_on(other, deed))
                    self.assertEqual(one.touched(), other.touched())
                    self.assertEqual(one.sizes(), other.sizes())
                self.assertEqual(other.state(), one.state())

    def test_two_tables_of_one_state_share_nothing(self):
        for state in self.states(PLAIN):
            one = Table(PLAIN, 2, state)
            other = Table(PLAIN, 2, state)
            for key in range(40):
                one.put(key, 0)
                one.cut(key + 1)
            self.assertTrue(other.state() == state)

    def test_the_state_handed_in_is_as_it_was(self):
        for state in (one_shelf(8, PLAIN, range(9)), two_shelves((8, 16), 3, PLAIN, range(15))):
            written = repr(state)
            table = Table(PLAIN, 3, state)
            for deed in waves(3, 200, KEYS, (50,)):
                deed_on(table, deed)
            self.assertEqual(repr(state), written)

    def test_a_moving_table_of_one_pace_goes_on_at_another(self):
        state = grown(1, range(17)).state()
        self.assertEqual(Table(PLAIN, 1, state).sizes(), (16, 32))
        for pace in PACES:
            table = Table(PLAIN, pace, state)
            table.look(0)
            self.assertEqual(table.state()[1], pace)


if __name__ == "__main__":
    unittest.main()
