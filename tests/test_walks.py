import itertools
import unittest

from slowshift.tables import Table
from slowshift.walks import step

from tests.helpers import (
    MIXERS, ONE_PLACE, PLAIN, SIZES, laid, one_shelf, plain_step, stretches, told_by_dict, two_shelves, waves,
)

PACES = (1, 2, 3, 4, 5, 6, 7, 8)
MANY = 600
KEYS = list(range(MANY))
# By this mixer the keys of MANY have marks all over the sixteen bits.
SPREAD = (40503, 12345)


def cursors(size):
    """Points at the ends of stretches of this size and the double one, beside them, and within."""
    told = [0, 1, 65534, 65535]
    for first, last, place in stretches(min(size * 2, 4096))[:: max(1, size // 16)]:
        told.extend([first, first + 1, (first + last) // 2, last - 1, last])
    return sorted(set(told))


def in_turn(deeds):
    """These deeds over and over, but no more in all than a table takes."""
    return itertools.islice(itertools.cycle(deeds), 2500)


class StepTest(unittest.TestCase):
    def agrees(self, state, mixer, points):
        table = Table(mixer, 2, state)
        for cursor in points:
            self.assertEqual(step(table, cursor), plain_step(state, cursor))

    def test_an_empty_table(self):
        table = Table(PLAIN, 1, None)
        self.assertEqual(step(table, 0), (16384, []))
        self.assertEqual(step(table, 16383), (16384, []))
        self.assertEqual(step(table, 16384), (32768, []))
        self.assertEqual(step(table, 40000), (49152, []))
        self.assertEqual(step(table, 49152), (0, []))
        self.assertEqual(step(table, 65535), (0, []))

    def test_the_order_of_places_is_that_of_their_stretches(self):
        table = Table(PLAIN, 1, one_shelf(4, PLAIN, (3, 2, 1, 0)))
        told = [step(table, cursor)[1] for cursor in (0, 16384, 32768, 49152)]
        self.assertEqual(told, [[(0, 1)], [(2, 3)], [(1, 2)], [(3, 4)]])

    def test_one_shelf_within_a_stretch_tells_the_whole_row(self):
        table = Table(PLAIN, 1, one_shelf(4, PLAIN, (9, 1, 5)))
        for cursor in (32768, 32769, 40959, 40960, 49151):
            self.assertEqual(step(table, cursor), (49152, [(9, 10), (1, 2), (5, 6)]))

    def two(self, sizes):
        """By each place of size 4 a row, and by each of size 8, the elder's first places being moved."""
        lesser = [(place, 1) for place in range(4)] + [(place + 80, 2) for place in range(4)]
        greater = [(place + 160, 3) for place in range(2, 8)] + [(place + 240, 4) for place in range(2, 8)]
        if sizes == (8, 4):
            return (laid(8, PLAIN, greater), 2, laid(4, PLAIN, lesser))
        return (laid(4, PLAIN, lesser[2:4] + lesser[6:]), 2, laid(8, PLAIN, greater))

    def test_moving_to_half_the_size(self):
        table = Table(PLAIN, 1, self.two((8, 4)))
        self.assertEqual(step(table, 0), (16384, [(0, 1), (80, 2), (164, 3), (244, 4)]))
        self.assertEqual(step(table, 8192), (16384, [(0, 1), (80, 2), (164, 3), (244, 4)]))
        whole = [(2, 1), (82, 2), (162, 3), (242, 4), (166, 3), (246, 4)]
        self.assertEqual(step(table, 16384), (32768, whole))
        self.assertEqual(step(table, 24575), (32768, whole))
        self.assertEqual(step(table, 24576), (32768, whole[:2] + whole[4:]))
        self.assertEqual(step(table, 32767), (32768, whole[:2] + whole[4:]))
        whole = [(3, 1), (83, 2), (163, 3), (243, 4), (167, 3), (247, 4)]
        self.assertEqual(step(table, 49152), (0, whole))
        self.assertEqual(step(table, 57343), (0, whole))
        self.assertEqual(step(table, 57344), (0, whole[:2] + whole[4:]))
        self.assertEqual(step(table, 65535), (0, whole[:2] + whole[4:]))

    def test_moving_to_the_double_size(self):
        table = Table(PLAIN, 1, self.two((4, 8)))
        self.assertEqual(step(table, 0), (16384, [(164, 3), (244, 4)]))
        self.assertEqual(step(table, 8191), (16384, [(164, 3), (244, 4)]))
        self.assertEqual(step(table, 8192), (16384, [(164, 3), (244, 4)]))
        whole = [(2, 1), (82, 2), (162, 3), (242, 4), (166, 3), (246, 4)]
        self.assertEqual(step(table, 16384), (32768, whole))
        self.assertEqual(step(table, 24575), (32768, whole))
        self.assertEqual(step(table, 24576), (32768, whole[:2] + whole[4:]))
        whole = [(3, 1), (83, 2), (163, 3), (243, 4), (167, 3), (247, 4)]
        self.assertEqual(step(table, 57343), (0, whole))
        self.assertEqual(step(table, 65535), (0, whole[:2] + whole[4:]))

    def test_each_size_on_one_shelf(self):
        for size in SIZES:
            for mixer in (SPREAD, ONE_PLACE):
                self.agrees(one_shelf(size, mixer, KEYS), mixer, cursors(size))

    def test_each_size_on_two_shelves(self):
        for size in SIZES[:-1]:
            for mixer in (SPREAD, ONE_PLACE):
                for moved in (0, 1, size // 2, size - 1):
                    self.agrees(two_shelves((size, size * 2), moved, mixer, KEYS), mixer, cursors(size))
                    self.agrees(two_shelves((size * 2, size), moved, mixer, KEYS), mixer, cursors(size))

    def test_tables_that_came_to_move_by_deeds(self):
        for pace in (1, 3):
            table = Table(SPREAD, pace, None)
            for deed in waves(pace, 300, KEYS, (9, 40)):
                getattr(table, deed[0])(*deed[1:])
                for cursor in (0, 8192, 20000, 65535):
                    self.assertEqual(step(table, cursor), plain_step(table.state(), cursor))

    def test_worths_of_nought_and_below(self):
        state = (laid(4, PLAIN, [(1, 0)]), 0, laid(8, PLAIN, [(5, -1), (9, 0)]))
        self.assertEqual(step(Table(PLAIN, 1, state), 32768), (49152, [(1, 0), (9, 0), (5, -1)]))

    def test_kinds_told(self):
        for state in (None, one_shelf(4, PLAIN, range(3)), two_shelves((8, 4), 3, PLAIN, range(9))):
            for cursor in (0, 65535):
                told = step(table=Table(PLAIN, 1, state), cursor=cursor)
                self.assertEqual([type(part) for part in told], [int, list])
                self.assertIs(type(told), tuple)
                self.assertTrue(all(type(pair) is tuple for pair in told[1]))


class StepsChangeNothingTest(unittest.TestCase):
    def tables(self):
        for state in (None, one_shelf(8, PLAIN, range(9)), one_shelf(64, PLAIN, ())):
            yield Table(PLAIN, 2, state)
        for sizes in ((8, 16), (16, 8)):
            table = Table(PLAIN, 2, two_shelves(sizes, 3, PLAIN, range(40)))
            table.look(0)
            yield table

    def seen(self, table):
        return (table.state(), table.sizes(), table.many(), table.touched())

    def test_a_step_is_no_deed(self):
        for table in self.tables():
            before = self.seen(table)
            for cursor in range(0, 65536, 1023):
                first = step(table, cursor)
                self.assertEqual(step(table, cursor), first)
                self.assertEqual(self.seen(table), before)

    def test_the_list_told_is_the_askers_own(self):
        for table in self.tables():
            before = self.seen(table)
            for cursor in range(0, 65536, 4096):
                one = step(table, cursor)[1]
                other = step(table, cursor)[1]
                kept = list(other)
                self.assertIsNot(one, other)
                one.append((77, 77))
                one.reverse()
                self.assertEqual(other, kept)
                self.assertEqual(self.seen(table), before)

    def test_nothing_done_later_changes_a_list_told(self):
        for table in self.tables():
            told = [step(table, cursor)[1] for cursor in range(0, 65536, 4096)]
            kept = [list(pairs) for pairs in told]
            for key in range(60):
                table.put(key, 0)
            for key in range(60):
                table.cut(key)
            self.assertEqual(told, kept)


class WalkTest(unittest.TestCase):
    def walk(self, table, worths, deeds, between):
        """Walks with so many deeds between the steps; tells how many steps, and whether a move began or ended."""
        stay = dict.fromkeys(worths)
        told = {}
        cursor, steps, shifted, twice = 0, 0, False, False
        while cursor or not steps:
            if steps:
                for deed in itertools.islice(deeds, between):
                    sizes = table.sizes()
                    getattr(table, deed[0])(*deed[1:])
                    told_by_dict(worths, deed)
                    if deed[0] == "cut":
                        stay.pop(deed[1], None)
                    shifted = shifted or table.sizes() != sizes
            following, pairs = step(table, cursor)
            self.assertTrue(following == 0 or cursor < following < 65536)
            self.assertTrue(all(worths.get(key) == worth for key, worth in pairs))
            self.assertEqual(len(dict(pairs)), len(pairs))
            twice = twice or any(key in told for key, worth in pairs)
            told.update(pairs)
            cursor = following
            steps += 1
        self.assertEqual([key for key in stay if key not in told], [])
        self.assertFalse(twice and not shifted)
        self.assertLessEqual(steps, 4096)
        return steps, shifted

    def test_without_deeds_each_pair_is_told_once(self):
        for mixer in MIXERS:
            for size in SIZES:
                for state in self.states(size, mixer):
                    worths = {key: key + 1 for key in range(100)}
                    steps, shifted = self.walk(Table(mixer, 1, state), worths, iter(()), 0)
                    self.assertFalse(shifted)
                    self.assertEqual(steps, size)

    def states(self, size, mixer):
        yield one_shelf(size, mixer, range(100))
        if size < 4096:
            yield two_shelves((size, size * 2), size // 2, mixer, range(100))
            yield two_shelves((size * 2, size), size // 2, mixer, range(100))

    def test_deeds_of_all_kinds_between_the_steps(self):
        shifts = []
        for pace in PACES:
            for mixer in (SPREAD, ONE_PLACE, PLAIN):
                for between in (1, 2, 5, 19):
                    table = Table(mixer, pace, None)
                    worths = {}
                    deeds = iter(waves(pace + between, 2500, KEYS, (9, 120, 33, 300)))
                    for turn in range(12):
                        shifts.append(self.walk(table, worths, deeds, between)[1])
        self.assertTrue(any(shifts) and not all(shifts))

    def grown(self, pace, many, mixer=SPREAD):
        table = Table(mixer, pace, None)
        worths = {}
        for key in range(many):
            table.put(key, key % 3)
            worths[key] = key % 3
        return table, worths

    def test_over_growing_tables(self):
        for pace in PACES:
            for many in (4, 7, 16, 40):
                for between in (2, 3, 8, 40):
                    table, worths = self.grown(pace, many)
                    deeds = (("put", key, 0) for key in range(1000, 2400))
                    self.assertTrue(self.walk(table, worths, deeds, between)[1])
                    self.assertGreater(len(worths), many)

    def test_over_shrinking_tables(self):
        shifts = []
        for pace in PACES:
            for many in (17, 40, 100, 300):
                for between in (1, 3, 8, 40):
                    table, worths = self.grown(pace, many)
                    # The last two stay, so that there is something to miss while all else goes.
                    deeds = in_turn([("cut", key) for key in range(many - 2)])
                    shifts.append(self.walk(table, worths, deeds, between)[1])
                    self.assertLess(len(worths), many)
        self.assertTrue(any(shifts))

    def test_shrinking_from_far_too_great_sizes(self):
        for pace in PACES:
            for size in (128, 256, 4096):
                for between in (1, 7, size // 2):
                    table = Table(SPREAD, pace, one_shelf(size, SPREAD, range(12)))
                    worths = {key: key + 1 for key in range(12)}
                    deeds = in_turn([("look", 3), ("put", 4, 9), ("cut", 99)])
                    self.assertTrue(self.walk(table, worths, deeds, between)[1])

    def test_growing_from_far_too_small_sizes(self):
        for pace in PACES:
            for size in (4, 8, 32):
                for between in (1, 7, 30):
                    table = Table(SPREAD, pace, one_shelf(size, SPREAD, range(500)))
                    worths = {key: key + 1 for key in range(500)}
                    deeds = in_turn([("look", 3), ("put", 4, 9), ("cut", 999)])
                    self.assertTrue(self.walk(table, worths, deeds, between)[1])

    def test_none_twice_while_one_move_goes_on(self):
        for sizes in ((64, 128), (128, 64)):
            for moved in (0, 20):
                keys = range(200)
                table = Table(SPREAD, 1, two_shelves(sizes, moved, SPREAD, keys))
                worths = {key: key + 1 for key in keys}
                deeds = iter([("put", key * 5, 7) for key in range(43)])
                steps, shifted = self.walk(table, worths, deeds, 1)
                self.assertFalse(shifted)
                self.assertEqual(steps, 64)
                self.assertEqual(table.state()[1], moved + 43)

    def test_at_most_4096_steps(self):
        table = Table(SPREAD, 8, one_shelf(4096, SPREAD, range(2900)))
        worths = {key: key + 1 for key in range(2900)}
        deeds = iter([("look", key) for key in range(2900)])
        self.assertEqual(self.walk(table, worths, deeds, 1), (4096, False))
        table = Table(SPREAD, 1, two_shelves((2048, 4096), 0, SPREAD, range(2900)))
        worths = {key: key + 1 for key in range(2900)}
        deeds = iter([("look", key) for key in range(2900)])
        steps, shifted = self.walk(table, worths, deeds, 2)
        self.assertTrue(shifted and 2048 < steps < 4096)


if __name__ == "__main__":
    unittest.main()
