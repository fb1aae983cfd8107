import unittest

from slowshift.bounds import done, is_late, late_row
from slowshift.tables import Table

from tests.helpers import (
    GREATEST, MIXERS, ONE_PLACE, PLAIN, SIZES, PlainTable, laid, one_shelf, settle, told_by_dict, two_shelves,
    waves,
)

PACES = (1, 2, 3, 4, 5, 6, 7, 8)


class IsLateTest(unittest.TestCase):
    def late(self, state, mixer=PLAIN):
        return is_late(Table(mixer, 1, state))

    def test_an_empty_table(self):
        self.assertIs(self.late(None), False)

    def test_on_one_shelf(self):
        for size in SIZES[:9]:
            for mixer in (PLAIN, ONE_PLACE):
                for many, late in ((size, False), (size + 1, False), (size + 2, True), (size + 3, True)):
                    self.assertIs(self.late(one_shelf(size, mixer, range(many)), mixer), late)

    def test_on_two_shelves(self):
        for sizes in ((4, 8), (8, 4), (64, 128), (128, 64)):
            for mixer in (PLAIN, ONE_PLACE):
                for moved in (0, 3):
                    for more, late in ((0, False), (1, False), (2, True), (3, True)):
                        state = two_shelves(sizes, moved, mixer, range(sizes[1] + more))
                        self.assertIs(self.late(state, mixer), late)

    def test_all_keys_on_the_elder_or_all_on_the_newer(self):
        for sizes in ((8, 4), (8, 16)):
            for more, late in ((1, False), (2, True)):
                pairs = [(key, 0) for key in range(sizes[1] + more)]
                self.assertIs(self.late((laid(sizes[0], PLAIN, pairs), 0, laid(sizes[1], PLAIN, []))), late)
                self.assertIs(self.late((laid(sizes[0], PLAIN, []), 5, laid(sizes[1], PLAIN, pairs))), late)

    def test_far_too_full_and_far_too_empty(self):
        self.assertIs(self.late(one_shelf(4, PLAIN, range(2000))), True)
        self.assertIs(self.late(one_shelf(4096, PLAIN, ())), False)

    def test_deed_by_deed(self):
        table = Table(PLAIN, 1, (laid(16, PLAIN, []), 0, laid(8, PLAIN, [])))
        for many in range(1, 16):
            table.put(many, 0)
            self.assertIs(is_late(table), many > 9)
        table.put(16, 0)
        self.assertEqual(table.sizes(), (8, 16))
        self.assertIs(is_late(table), False)

    def test_asking_is_no_deed(self):
        state = two_shelves((8, 4), 2, PLAIN, range(6))
        table = Table(PLAIN, 3, state)
        table.look(0)
        before = (table.state(), table.touched())
        self.assertIs(is_late(table=table), True)
        self.assertEqual((table.state(), table.touched()), before)


class DoneTest(unittest.TestCase):
    def test_put(self):
        table = Table(PLAIN, 1, None)
        self.assertIsNone(done(table, ("put", 6, 60)))
        self.assertEqual(done(table, ("put", 6, 61)), 60)
        self.assertEqual(table.state(), (None, 0, ((), (), ((6, 61),), ())))

    def test_look(self):
        table = Table(PLAIN, 1, None)
        self.assertIsNone(done(table, ("look", 6)))
        table.put(6, 60)
        self.assertEqual(done(table, ("look", 6)), 60)
        self.assertEqual(table.state(), (None, 0, ((), (), ((6, 60),), ())))

    def test_cut(self):
        table = Table(PLAIN, 1, None)
        self.assertIsNone(done(table, ("cut", 6)))
        table.put(6, 60)
        self.assertEqual(done(table, ("cut", 6)), 60)
        self.assertEqual(table.state(), (None, 0, ((), (), (), ())))

    def test_worths_of_nought_and_below(self):
        for worth in (0, -1, -GREATEST):
            table = Table(PLAIN, 1, None)
            self.assertIsNone(done(table, ("put", 6, worth)))
            self.assertEqual(done(table, ("put", 6, worth)), worth)
            self.assertEqual(done(table, ("look", 6)), worth)
            self.assertEqual(done(table, ("cut", 6)), worth)

    def test_each_is_one_deed_of_the_table(self):
        for pace in PACES:
            table = Table((40503, 9), pace, None)
            plain = PlainTable((40503, 9), pace)
            worths = {}
            for deed in waves(pace, 600, list(range(200)), (3, 20, 70)):
                told = done(table=table, deed=deed)
                self.assertEqual(told, plain.done(deed))
                self.assertEqual(told, told_by_dict(worths, deed))
                self.assertEqual((table.sizes(), table.touched()), (plain.sizes(), plain.touched()))
            self.assertEqual(table.state(), plain.state())

    def test_the_deed_handed_in_is_as_it_was(self):
        deeds = [("put", 1, 2), ("look", 1), ("cut", 1)]
        table = Table(PLAIN, 1, None)
        for deed in deeds:
            done(table, deed)
        self.assertEqual(deeds, [("put", 1, 2), ("look", 1), ("cut", 1)])


class LateRowTest(unittest.TestCase):
    def is_deed(self, deed):
        self.assertIs(type(deed), tuple)
        self.assertEqual(len(deed), {"put": 3, "look": 2, "cut": 2}[deed[0]])
        self.assertTrue(all(type(part) is int for part in deed[1:]))
        self.assertTrue(0 <= deed[1] <= GREATEST)
        self.assertTrue(-GREATEST <= deed[-1] <= GREATEST)

    def test_a_list_of_deeds(self):
        for pace in (1, 2):
            deeds = late_row(pace=pace)
            self.assertIs(type(deeds), list)
            self.assertTrue(0 < len(deeds) <= 3000)
            for deed in deeds:
                self.is_deed(deed)

    def test_behind_the_last_a_table_is_late(self):
        for pace in (1, 2):
            for mixer in MIXERS + ((0, 0), (1, 65535), (65535, 0), (32768, 3)):
                table = Table(mixer, pace, None)
                plain = PlainTable(mixer, pace)
                for deed in late_row(pace):
                    self.assertEqual(done(table, deed), plain.done(deed))
                self.assertIs(is_late(table), True)
                self.assertGreater(plain.many(), plain.sizes()[1] + 1)

    def test_none_of_another_pace(self):
        for pace in (3, 4, 5, 6, 7, 8):
            self.assertIsNone(late_row(pace))

    def test_each_list_told_is_the_askers_own(self):
        for pace in (1, 2):
            one = late_row(pace)
            other = late_row(pace)
            kept = list(one)
            self.assertIsNot(one, other)
            one.reverse()
            one.append(("look", 1))
            self.assertEqual(other, kept)
            other.clear()
            self.assertEqual(late_row(pace), kept)


class NeverLateTest(unittest.TestCase):
    def puts(self, table, first, many):
        for key in range(first, first + many):
            table.put(key, 0)
            self.assertFalse(is_late(table))

    def shrink_and_fill(self, table, size, pace):
        """The most that can be done: few keys are left just when the move begins, and puts alone go with it."""
        for key in range(table.many()):
            if table.sizes()[0] is None:
                table.cut(key)
                self.assertFalse(is_late(table))
        self.assertEqual(table.sizes(), (size, size // 2))
        self.puts(table, GREATEST // 2, size // pace + 3)
        self.assertNotEqual(table.sizes(), (size, size // 2))

    def test_at_a_pace_of_3_or_more_through_cuts_and_puts(self):
        for pace in PACES[2:]:
            for mixer in (PLAIN, ONE_PLACE, (40503, 1)):
                for size in SIZES[1:9]:
                    table = Table(mixer, pace, None)
                    self.puts(table, 0, size // 2 + 1)
                    settle(table)
                    self.assertEqual(table.sizes(), (None, size))
                    self.shrink_and_fill(table, size, pace)

    def test_made_of_such_a_ones_state_at_the_same_pace(self):
        for pace in PACES[2:]:
            for size in (8, 32, 256):
                table = Table(PLAIN, pace, None)
                self.puts(table, 0, size // 2 + 1)
                table = Table(PLAIN, pace, table.state())
                settle(table)
                table = Table(PLAIN, pace, table.state())
                self.shrink_and_fill(table, size, pace)

    def test_at_a_pace_of_3_or_more_through_deeds_of_all_kinds(self):
        for pace in PACES[2:]:
            for start in range(4):
                table = Table((40503, start), pace, None)
                for deed in waves(start, 2000, list(range(700)), (6, 300, 18, 70)):
                    done(table, deed)
                    self.assertFalse(is_late(table))

    def test_without_cuts_at_any_pace(self):
        for pace in PACES:
            for mixer in (PLAIN, ONE_PLACE, (40503, 1)):
                self.puts(Table(mixer, pace, None), 0, 2900)
            table = Table(PLAIN, pace, None)
            for deed in waves(pace, 2000, list(range(1500)), (1400,)):
                if deed[0] != "cut":
                    done(table, deed)
                    self.assertFalse(is_late(table))

    def test_up_to_4097_keys(self):
        for pace in PACES:
            table = Table(PLAIN, pace, None)
            self.puts(table, 0, 2900)
            table = Table(PLAIN, pace, table.state())
            self.puts(table, 2900, 1197)
            settle(table)
            self.assertEqual((table.many(), table.sizes()), (4097, (None, 4096)))
            table.put(4097, 0)
            self.assertTrue(is_late(table))


if __name__ == "__main__":
    unittest.main()
