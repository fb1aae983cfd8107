import unittest

from slowshift.errors import NoPlace, NoSize, SlowError
from slowshift.shelves import Shelf

from tests.helpers import GREATEST, MIXERS, ONE_PLACE, PLAIN, SIZES, PlainShelf


def shelf_with(size, mixer, pairs):
    shelf = Shelf(size, mixer)
    for key, worth in pairs:
        shelf.put(key, worth)
    return shelf


def all_rows(shelf):
    return [shelf.row(place) for place in range(shelf.size())]


# Compared by == where it may be long: to write out how two long lists differ takes minutes.
def seen(shelf):
    return (shelf.size(), shelf.many(), all_rows(shelf))


def endless():
    told = []
    told.append(told)
    return told


def no_numbers():
    return [
        True, False, None, "", "0", "1", "4", "four", "-1", "\n", [], [0], [4], (), (0,), (4,), (0, 1), {}, {0: 0},
        {4: 4}, {"a": []}, [[]], endless(), object(), int, len, Shelf, Shelf(4, PLAIN), set(), {4}, frozenset([0]),
        b"", b"4", range(4), NoSize("4"),
    ]


class NewShelfTest(unittest.TestCase):
    def test_each_size(self):
        for size in SIZES:
            shelf = Shelf(size, PLAIN)
            self.assertEqual(shelf.size(), size)
            self.assertEqual(shelf.many(), 0)
            self.assertTrue(all_rows(shelf) == [[]] * size)

    def test_whole_numbers_told(self):
        shelf = shelf_with(8, PLAIN, [(1, 2)])
        self.assertIs(type(shelf.size()), int)
        self.assertIs(type(shelf.many()), int)

    def test_shelves_share_nothing(self):
        one = Shelf(4, PLAIN)
        other = Shelf(4, PLAIN)
        one.put(1, 10)
        self.assertEqual(seen(other), (4, 0, [[], [], [], []]))


class PutTest(unittest.TestCase):
    def test_new_key(self):
        shelf = Shelf(4, PLAIN)
        self.assertIsNone(shelf.put(6, 60))
        self.assertEqual(all_rows(shelf), [[], [], [(6, 60)], []])
        self.assertEqual(shelf.many(), 1)

    def test_a_new_pair_comes_behind_the_others(self):
        shelf = shelf_with(4, PLAIN, [(9, 1), (1, 2), (5, 3)])
        self.assertEqual(shelf.row(1), [(9, 1), (1, 2), (5, 3)])

    def test_a_key_that_has_a_pair_stays_where_it_stands(self):
        shelf = shelf_with(4, PLAIN, [(9, 1), (1, 2), (5, 3)])
        self.assertEqual(shelf.put(9, 7), 1)
        self.assertEqual(shelf.put(1, 8), 2)
        self.assertEqual(shelf.row(1), [(9, 7), (1, 8), (5, 3)])
        self.assertEqual(shelf.many(), 3)

    def test_the_worth_it_had_is_told_each_time(self):
        shelf = Shelf(4, PLAIN)
        told = [shelf.put(3, worth) for worth in (5, 6, 6, -1, 0, 9)]
        self.assertEqual(told, [None, 5, 6, 6, -1, 0])

    def test_a_pair_lies_in_the_row_of_its_marks_place(self):
        shelf = shelf_with(8, (3, 7), [(0, 1), (5, 2), (8, 3), (100000, 4)])
        rows = [[] for place in range(8)]
        rows[7] = [(0, 1), (8, 3), (100000, 4)]
        rows[6] = [(5, 2)]
        self.assertEqual(all_rows(shelf), rows)

    def test_the_mark_is_taken_over_65536_ahead_of_the_place(self):
        for size in SIZES:
            shelf = shelf_with(size, (40503, 12345), [(123456, 1)])
            self.assertEqual(shelf.row(19449 % size), [(123456, 1)])

    def test_least_and_greatest_keys_and_worths(self):
        shelf = shelf_with(4096, PLAIN, [(0, -GREATEST), (GREATEST, GREATEST)])
        self.assertEqual(shelf.row(0), [(0, -GREATEST)])
        self.assertEqual(shelf.row(2560), [(GREATEST, GREATEST)])
        self.assertEqual(shelf.look(0), -GREATEST)
        self.assertEqual(shelf.look(GREATEST), GREATEST)

    def test_beyond_the_bounds_nothing_is_refused(self):
        shelf = Shelf(4, (65537, 65536))
        self.assertIsNone(shelf.put(GREATEST + 1, 2 * GREATEST))
        self.assertEqual(shelf.look(GREATEST + 1), 2 * GREATEST)
        self.assertEqual(shelf.row(1), [(GREATEST + 1, 2 * GREATEST)])


class CutTest(unittest.TestCase):
    def test_worth_told_and_the_others_stay_in_order(self):
        pairs = [(9, 1), (1, 2), (5, 3), (13, 4)]
        for cut in range(4):
            shelf = shelf_with(4, PLAIN, pairs)
            self.assertEqual(shelf.cut(pairs[cut][0]), pairs[cut][1])
            self.assertEqual(shelf.row(1), pairs[:cut] + pairs[cut + 1:])
            self.assertEqual(shelf.many(), 3)

    def test_a_key_that_isnt_there(self):
        shelf = shelf_with(4, PLAIN, [(9, 1), (2, 2)])
        before = seen(shelf)
        for key in (1, 0, 6, 10 ** 9):
            self.assertIsNone(shelf.cut(key))
        self.assertEqual(seen(shelf), before)

    def test_cut_twice(self):
        shelf = shelf_with(4, PLAIN, [(9, 1)])
        self.assertEqual(shelf.cut(9), 1)
        self.assertIsNone(shelf.cut(9))
        self.assertEqual(shelf.many(), 0)

    def test_cut_and_put_again_comes_behind_the_others(self):
        shelf = shelf_with(4, PLAIN, [(9, 1), (1, 2), (5, 3)])
        shelf.cut(9)
        self.assertIsNone(shelf.put(9, 4))
        self.assertEqual(shelf.row(1), [(1, 2), (5, 3), (9, 4)])
        self.assertEqual(shelf.many(), 3)

    def test_other_places_stay(self):
        shelf = shelf_with(4, PLAIN, [(0, 1), (1, 2), (2, 3)])
        shelf.cut(1)
        self.assertEqual(all_rows(shelf), [[(0, 1)], [], [(2, 3)], []])


class LookTest(unittest.TestCase):
    def test_keys_that_are_there_and_that_arent(self):
        shelf = shelf_with(4, PLAIN, [(9, 1), (1, 2), (2, 3)])
        told = [shelf.look(key) for key in (9, 1, 2, 5, 0, 6, 10 ** 9)]
        self.assertEqual(told, [1, 2, 3, None, None, None, None])

    def test_looking_changes_nothing(self):
        shelf = shelf_with(4, PLAIN, [(9, 1), (1, 2)])
        before = seen(shelf)
        for key in range(20):
            shelf.look(key)
        self.assertEqual(seen(shelf), before)

    def test_the_newest_worth_is_told_and_none_behind_a_cut(self):
        shelf = shelf_with(4, PLAIN, [(9, 1), (9, 2)])
        self.assertEqual(shelf.look(9), 2)
        shelf.cut(9)
        self.assertIsNone(shelf.look(9))


class WorthsTest(unittest.TestCase):
    def test_nought_and_below_are_worths(self):
        for worth in (0, -1, -GREATEST):
            shelf = Shelf(4, PLAIN)
            self.assertIsNone(shelf.put(5, worth))
            self.assertEqual(shelf.look(5), worth)
            self.assertEqual(shelf.many(), 1)
            self.assertEqual(shelf.row(1), [(5, worth)])
            self.assertEqual(shelf.put(5, 3), worth)
            self.assertEqual(shelf.many(), 1)
            self.assertEqual(shelf.put(5, worth), 3)
            self.assertEqual(shelf.cut(5), worth)
            self.assertEqual(shelf.many(), 0)
            self.assertIsNone(shelf.look(5))

    def test_a_key_of_worth_nought_stays_where_it_stands(self):
        shelf = shelf_with(4, PLAIN, [(1, 0), (5, 0), (1, 0)])
        self.assertEqual(shelf.row(1), [(1, 0), (5, 0)])


class OnePlaceTest(unittest.TestCase):
    def test_all_keys_have_one_place(self):
        for size in SIZES:
            shelf = shelf_with(size, ONE_PLACE, [(key, -key) for key in range(50)])
            self.assertEqual(shelf.row(6 % size), [(key, -key) for key in range(50)])
            self.assertEqual(shelf.many(), 50)
            shelf.cut(20)
            shelf.put(20, 1)
            shelf.put(0, 2)
            left = [(0, 2)] + [(key, -key) for key in range(1, 50) if key != 20] + [(20, 1)]
            self.assertEqual(shelf.row(6 % size), left)
            self.assertEqual(sum(len(row) for row in all_rows(shelf)), 50)

    def test_three_thousand_deeds(self):
        shelf = Shelf(4, ONE_PLACE)
        for key in range(1500):
            self.assertIsNone(shelf.put(key, key))
        for key in range(1500):
            self.assertEqual(shelf.cut(key), key)
        self.assertEqual(seen(shelf), (4, 0, [[], [], [], []]))


class RowsTest(unittest.TestCase):
    def test_first_and_last_place(self):
        for size in SIZES:
            shelf = shelf_with(size, PLAIN, [(0, 1), (size - 1, 2), (size, 3)])
            self.assertEqual(shelf.row(0), [(0, 1), (size, 3)])
            self.assertEqual(shelf.row(size - 1), [(size - 1, 2)])
            self.assertEqual(shelf.many(), 3)

    def test_a_list_of_tuples_is_told(self):
        shelf = shelf_with(4, PLAIN, [(0, 1), (4, 2)])
        for told in (shelf.row(0), shelf.row(1), shelf.empty(0), shelf.empty(1)):
            self.assertIs(type(told), list)
            self.assertTrue(all(type(pair) is tuple for pair in told))

    def test_asking_changes_nothing(self):
        shelf = shelf_with(4, PLAIN, [(0, 1), (4, 2), (1, 3)])
        self.assertEqual(seen(shelf), seen(shelf))


class EmptyTest(unittest.TestCase):
    def test_the_row_is_told_and_then_has_none(self):
        shelf = shelf_with(4, PLAIN, [(4, 1), (0, 2), (1, 3), (3, 4)])
        self.assertEqual(shelf.empty(0), [(4, 1), (0, 2)])
        self.assertEqual(shelf.row(0), [])
        self.assertEqual(shelf.empty(0), [])
        self.assertIsNone(shelf.look(4))
        self.assertIsNone(shelf.cut(0))
        self.assertEqual(shelf.many(), 2)

    def test_other_places_stay(self):
        shelf = shelf_with(4, PLAIN, [(4, 1), (0, 2), (1, 3), (3, 4)])
        shelf.empty(0)
        self.assertEqual(all_rows(shelf), [[], [(1, 3)], [], [(3, 4)]])

    def test_a_place_without_pairs(self):
        shelf = shelf_with(4, PLAIN, [(1, 3)])
        self.assertEqual(shelf.empty(2), [])
        self.assertEqual(seen(shelf), (4, 1, [[], [(1, 3)], [], []]))

    def test_first_and_last_place(self):
        for size in SIZES:
            shelf = shelf_with(size, PLAIN, [(0, 1), (size - 1, 2)])
            self.assertEqual(shelf.empty(size - 1), [(size - 1, 2)])
            self.assertEqual(shelf.empty(0), [(0, 1)])
            self.assertEqual(shelf.many(), 0)

    def test_put_again_behind_emptying(self):
        shelf = shelf_with(4, PLAIN, [(4, 1), (0, 2)])
        shelf.empty(0)
        self.assertIsNone(shelf.put(0, 5))
        self.assertIsNone(shelf.put(4, 6))
        self.assertEqual(shelf.row(0), [(0, 5), (4, 6)])
        self.assertEqual(shelf.many(), 2)


class NoPlaceTest(unittest.TestCase):
    def refused(self, shelf, place):
        before = seen(shelf)
        for ask in (shelf.row, shelf.empty):
            with self.assertRaises(NoPlace):
                ask(place)
            self.assertTrue(seen(shelf) == before)

    def test_numbers(self):
        for size in (4, 16, 4096):
            shelf = shelf_with(size, PLAIN, [(key, key) for key in range(9)])
            for place in (-1, -2, -size, -size - 1, size, size + 1, 2 * size, GREATEST, -GREATEST, 10 ** 5000):
                self.refused(shelf, place)

    def test_anything(self):
        shelf = shelf_with(8, PLAIN, [(key, key) for key in range(9)])
        for place in no_numbers():
            self.refused(shelf, place)

    def test_goes_on_behind_a_refusal(self):
        shelf = shelf_with(4, PLAIN, [(4, 1)])
        self.refused(shelf, 4)
        self.assertEqual(shelf.put(4, 2), 1)
        self.assertEqual(shelf.empty(0), [(4, 2)])

    def test_may_be_taken_as_any_refusal(self):
        for taken in (SlowError, ValueError):
            with self.assertRaises(taken):
                Shelf(4, PLAIN).row(4)


class NoSizeTest(unittest.TestCase):
    def test_numbers(self):
        for size in list(range(-20, 9000)) + [16384, 65536, GREATEST, -4096, -GREATEST, 2 ** 200, 10 ** 5000]:
            if size not in SIZES:
                with self.assertRaises(NoSize):
                    Shelf(size, PLAIN)

    def test_anything(self):
        for size in no_numbers():
            with self.assertRaises(NoSize):
                Shelf(size, PLAIN)

    def test_may_be_taken_as_any_refusal(self):
        for taken in (SlowError, ValueError):
            with self.assertRaises(taken):
                Shelf(5, PLAIN)


class AskersOwnTest(unittest.TestCase):
    def spoil(self, told):
        told.append((77, 77))
        told[0] = (78, 78)
        told.reverse()

    def test_a_row_changed_by_the_asker_changes_nothing(self):
        shelf = shelf_with(4, PLAIN, [(0, 1), (4, 2), (1, 3)])
        before = seen(shelf)
        for place in range(4):
            self.spoil(shelf.row(place))
            self.assertEqual(seen(shelf), before)

    def test_an_emptied_row_changed_by_the_asker_changes_nothing(self):
        shelf = shelf_with(4, PLAIN, [(0, 1), (4, 2), (1, 3)])
        for place in (0, 2):
            told = shelf.empty(place)
            self.spoil(told)
            self.assertEqual(seen(shelf), (4, 1, [[], [(1, 3)], [], []]))
        shelf.put(8, 5)
        self.assertEqual(shelf.row(0), [(8, 5)])

    def test_nothing_done_later_changes_what_was_told(self):
        shelf = shelf_with(4, PLAIN, [(0, 1), (4, 2)])
        row = shelf.row(0)
        none = shelf.row(1)
        emptied = shelf.empty(0)
        bare = shelf.empty(1)
        for key in range(12):
            shelf.put(key, 9)
        shelf.cut(4)
        shelf.empty(1)
        self.assertEqual(row, [(0, 1), (4, 2)])
        self.assertEqual(none, [])
        self.assertEqual(emptied, [(0, 1), (4, 2)])
        self.assertEqual(bare, [])

    def test_a_row_told_stays_as_it_was_through_each_deed(self):
        for deed in ("put", "put again", "cut", "empty"):
            shelf = shelf_with(4, PLAIN, [(0, 1), (4, 2)])
            told = shelf.row(0)
            if deed == "put":
                shelf.put(8, 3)
            elif deed == "put again":
                shelf.put(0, 3)
            elif deed == "cut":
                shelf.cut(0)
            else:
                shelf.empty(0)
            self.assertEqual(told, [(0, 1), (4, 2)])

    def test_no_two_lists_told_are_one(self):
        shelf = shelf_with(4, PLAIN, [(0, 1), (4, 2)])
        told = []
        for ask in (shelf.row, shelf.row, shelf.empty, shelf.empty, shelf.row, shelf.row):
            for place in range(4):
                told.append(ask(place))
        self.assertEqual(len(set(id(row) for row in told)), len(told))

    def test_the_mixer_handed_in_is_as_it_was(self):
        mixer = (3, 7)
        shelf_with(4, mixer, [(0, 1), (4, 2)]).cut(0)
        self.assertEqual(mixer, (3, 7))


class ManyDeedsTest(unittest.TestCase):
    """Long rows of deeds, answered as by the plain shelf above."""

    def done(self, size, mixer, keys, start):
        shelf = Shelf(size, mixer)
        plain = PlainShelf(size, mixer)
        number = start
        for turn in range(3000):
            number = (number * 1103515245 + 12345) % 2 ** 31
            deed = number // 65536 % 16
            key = keys[number // 128 % len(keys)]
            worth = number % 7 - 3
            if deed < 8:
                self.assertEqual(shelf.put(key, worth), plain.put(key, worth))
            elif deed < 12:
                self.assertEqual(shelf.cut(key), plain.cut(key))
            elif deed < 15:
                self.assertEqual(shelf.look(key), plain.look(key))
            elif turn % 5 == 0:
                self.assertEqual(shelf.empty(key % size), plain.empty(key % size))
            if turn % 50 == 0 or turn == 2999:
                self.assertTrue(all_rows(shelf) == plain.rows)
                self.assertEqual(shelf.many(), plain.many())

    def test_as_the_plain_shelf(self):
        near = list(range(40))
        far = [GREATEST - number * 65521 for number in range(300)] + [0, GREATEST]
        for size in (4, 8, 64, 4096):
            for mixer in MIXERS:
                self.done(size, mixer, near, 7)
                self.done(size, mixer, far, 11)


if __name__ == "__main__":
    unittest.main()
