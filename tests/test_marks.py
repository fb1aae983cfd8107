import unittest

from slowshift.marks import mark_of, place_of, point_of, stretch_of

SIZES = (4, 8, 16, 32, 64, 128, 256, 512, 1024, 2048, 4096)
GREATEST_KEY = 10 ** 9


def is_plain_int(thing):
    return type(thing) is int


class MarkTest(unittest.TestCase):
    def test_ordinary_mixers(self):
        self.assertEqual(mark_of(5, (1, 0)), 5)
        self.assertEqual(mark_of(5, (3, 7)), 22)
        self.assertEqual(mark_of(1000, (100, 1)), 34465)
        self.assertEqual(mark_of(123456, (40503, 12345)), 19449)

    def test_what_is_left_over_65536(self):
        self.assertEqual(mark_of(65535, (1, 0)), 65535)
        self.assertEqual(mark_of(65536, (1, 0)), 0)
        self.assertEqual(mark_of(1, (65535, 0)), 65535)
        self.assertEqual(mark_of(1, (65535, 1)), 0)
        self.assertEqual(mark_of(2, (65535, 65535)), 65533)

    def test_factor_nought_gives_every_key_one_mark(self):
        for more in (0, 1, 6, 40000, 65535):
            for key in (0, 1, 77, 65536, GREATEST_KEY):
                self.assertEqual(mark_of(key, (0, more)), more)

    def test_least_key(self):
        for factor in (0, 1, 31, 65535):
            for more in (0, 9, 65535):
                self.assertEqual(mark_of(0, (factor, more)), more)

    def test_greatest_key(self):
        self.assertEqual(mark_of(GREATEST_KEY, (1, 0)), 51712)
        self.assertEqual(mark_of(GREATEST_KEY, (1, 13824)), 0)
        self.assertEqual(mark_of(GREATEST_KEY, (65535, 65535)), 13823)
        self.assertEqual(mark_of(GREATEST_KEY, (0, 3)), 3)

    def test_marks_run_over_all_numbers_below_65536(self):
        marks = [mark_of(key, (40503, 99)) for key in range(65536)]
        self.assertTrue(sorted(marks) == list(range(65536)))

    def test_beyond_the_bounds_nothing_is_refused(self):
        self.assertEqual(mark_of(GREATEST_KEY + 1, (1, 0)), 51713)
        self.assertEqual(mark_of(3, (65537, 65536)), 3)

    def test_whole_number_told(self):
        self.assertTrue(is_plain_int(mark_of(8, (9, 10))))


class PlaceTest(unittest.TestCase):
    def test_written_out(self):
        self.assertEqual([place_of(6, size) for size in (4, 8, 16)], [2, 6, 6])
        self.assertEqual([place_of(4095, size) for size in (4, 2048, 4096)], [3, 2047, 4095])
        self.assertEqual([place_of(4096, size) for size in (4, 2048, 4096)], [0, 0, 0])
        self.assertEqual(place_of(51712, 4096), 2560)

    def test_least_and_greatest_mark_on_each_size(self):
        for size in SIZES:
            self.assertEqual(place_of(0, size), 0)
            self.assertEqual(place_of(65535, size), size - 1)

    def test_marks_below_the_size_and_at_it(self):
        for size in SIZES:
            self.assertEqual(place_of(size - 1, size), size - 1)
            self.assertEqual(place_of(size, size), 0)
            self.assertEqual(place_of(size + 1, size), 1)

    def test_each_mark_on_each_size(self):
        for size in SIZES:
            for mark in range(65536):
                self.assertEqual(place_of(mark, size), mark % size)

    def test_whole_number_told(self):
        self.assertTrue(is_plain_int(place_of(70, 64)))


class PointTest(unittest.TestCase):
    def test_the_documents_own(self):
        self.assertEqual(point_of(1), 32768)
        self.assertEqual(point_of(6), 24576)

    def test_least_and_greatest(self):
        self.assertEqual(point_of(0), 0)
        self.assertEqual(point_of(65535), 65535)

    def test_single_bits(self):
        for bit in range(16):
            self.assertEqual(point_of(2 ** bit), 2 ** (15 - bit))

    def test_each_mark(self):
        for mark in range(65536):
            turned = f"{mark:016b}"[::-1]
            self.assertEqual(point_of(mark), int(turned, 2))

    def test_turned_twice_is_the_mark(self):
        for mark in range(0, 65536, 7):
            self.assertEqual(point_of(point_of(mark)), mark)

    def test_whole_number_told(self):
        self.assertTrue(is_plain_int(point_of(3)))


class StretchTest(unittest.TestCase):
    def test_least_size(self):
        told = [stretch_of(place, 4) for place in range(4)]
        self.assertEqual(told, [(0, 16383), (32768, 49151), (16384, 32767), (49152, 65535)])

    def test_greatest_size(self):
        self.assertEqual(stretch_of(0, 4096), (0, 15))
        self.assertEqual(stretch_of(1, 4096), (32768, 32783))
        self.assertEqual(stretch_of(6, 4096), (24576, 24591))
        self.assertEqual(stretch_of(2048, 4096), (16, 31))
        self.assertEqual(stretch_of(4095, 4096), (65520, 65535))

    def test_first_and_last_place_of_each_size(self):
        for size in SIZES:
            points = 65536 // size
            self.assertEqual(stretch_of(0, size), (0, points - 1))
            self.assertEqual(stretch_of(size - 1, size), (65536 - points, 65535))

    def test_least_and_greatest_point_of_the_marks_of_the_place(self):
        points = [int(f"{mark:016b}"[::-1], 2) for mark in range(65536)]
        for size in SIZES:
            for place in range(size):
                of_place = points[place::size]
                self.assertEqual(stretch_of(place, size), (min(of_place), max(of_place)))

    def test_every_point_of_a_stretch_is_of_its_place(self):
        for size in (4, 64, 4096):
            for mark in range(0, 65536, 5):
                first, last = stretch_of(place_of(mark, size), size)
                self.assertTrue(first <= point_of(mark) <= last)

    def test_stretches_of_a_size_part_all_points(self):
        for size in SIZES:
            behind = 0
            for first, last in sorted(stretch_of(place, size) for place in range(size)):
                self.assertEqual(first, behind)
                self.assertEqual(last - first + 1, 65536 // size)
                behind = last + 1
            self.assertEqual(behind, 65536)

    def test_a_stretch_is_two_of_the_double_size_in_order(self):
        for size in SIZES[:-1]:
            for place in range(size):
                low = stretch_of(place, size * 2)
                high = stretch_of(place + size, size * 2)
                self.assertEqual(low[1] + 1, high[0])
                self.assertEqual(stretch_of(place, size), (low[0], high[1]))

    def test_a_tuple_of_two_whole_numbers_is_told(self):
        told = stretch_of(3, 16)
        self.assertIs(type(told), tuple)
        self.assertEqual(len(told), 2)
        self.assertTrue(all(is_plain_int(point) for point in told))


if __name__ == "__main__":
    unittest.main()
