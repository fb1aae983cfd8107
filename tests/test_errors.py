import unittest

from slowshift.errors import NoPlace, NoRow, NoSize, NoState, SlowError

REFUSALS = (NoPlace, NoSize, NoState, NoRow)


class ErrorsTest(unittest.TestCase):
    def test_slow_error_is_a_value_error(self):
        self.assertTrue(issubclass(SlowError, ValueError))

    def test_each_refusal_is_a_slow_error_and_a_value_error(self):
        for refusal in REFUSALS:
            with self.subTest(refusal=refusal.__name__):
                self.assertTrue(issubclass(refusal, SlowError))
                self.assertTrue(issubclass(refusal, ValueError))
                self.assertIsNot(refusal, SlowError)

    def test_none_stands_under_another(self):
        for one in REFUSALS:
            for other in REFUSALS:
                if one is not other:
                    with self.subTest(one=one.__name__, other=other.__name__):
                        self.assertFalse(issubclass(one, other))

    def test_four_refusals_are_four_classes(self):
        self.assertEqual(len(set(REFUSALS)), 4)

    def test_names(self):
        names = [refusal.__name__ for refusal in REFUSALS]
        self.assertEqual(names, ["NoPlace", "NoSize", "NoState", "NoRow"])

    def test_raised_and_taken(self):
        for refusal in REFUSALS:
            for taken in (refusal, SlowError, ValueError):
                with self.subTest(refusal=refusal.__name__, taken=taken.__name__):
                    with self.assertRaises(taken):
                        raise refusal("words")
