import unittest

from slowshift.desk import Desk
from slowshift.errors import NoRow, SlowError

from tests.helpers import GREATEST, MIXERS, PlainTable, plain_step, waves

PACES = (1, 2, 3, 4, 5, 6, 7, 8)
ROWS_OF_A_TABLE = ("put 1 2", "look 1", "cut 1", "step 0", "keys", "places", "touched")


def said(desk, *rows):
    return [desk.say(row) for row in rows]


def seen(desk):
    """All that a desk with a table tells without a deed: keys, places, touched, and all that a walk tells."""
    told = said(desk, "keys", "places", "touched")
    cursor = "0"
    for turn in range(4096):
        told.append(desk.say("step " + cursor))
        cursor = told[-1].split(" ")[0]
        if cursor == "0":
            break
    return told


def moving_desk():
    desk = Desk()
    rows = ["table 1 0 1"] + [f"put {key} {key * 10}" for key in range(5)] + ["put 9 -90"]
    said(desk, *rows)
    return desk


def desks():
    """An empty table, one with keys, one that moves, and one behind another table."""
    filled = ["table 7 5 1", "put 3 4", "put 8 -1", "look 3"]
    for rows in (["table 1 0 2"], filled, filled + ["table 0 9 8"]):
        desk = Desk()
        said(desk, *rows)
        yield desk
    yield moving_desk()


class RowsTest(unittest.TestCase):
    def test_a_new_table(self):
        desk = Desk()
        self.assertEqual(desk.say("table 1 0 2"), "ok")
        self.assertEqual(seen(desk), ["0", "4", "0", "16384", "32768", "49152", "0"])

    def test_the_row_by_its_name(self):
        self.assertEqual(Desk().say(row="table 1 0 2"), "ok")

    def test_put(self):
        desk = Desk()
        self.assertEqual(said(desk, "table 1 0 2", "put 5 50", "put 5 -3", "put 5 0", "put 5 7", "put 6 1"),
                         ["ok", "none", "50", "-3", "0", "none"])

    def test_look(self):
        desk = Desk()
        rows = ("table 1 0 2", "look 5", "put 5 50", "look 5", "put 5 0", "look 5", "put 5 -12", "look 5", "look 1")
        self.assertEqual(said(desk, *rows), ["ok", "none", "none", "50", "50", "0", "0", "-12", "none"])

    def test_cut(self):
        desk = Desk()
        rows = ("table 1 0 2", "cut 5", "put 5 50", "cut 5", "cut 5", "put 5 0", "cut 5", "put 5 -9", "cut 5", "look 5")
        self.assertEqual(said(desk, *rows), ["ok", "none", "none", "50", "none", "none", "0", "none", "-9", "none"])

    def test_keys(self):
        desk = Desk()
        self.assertEqual(said(desk, "table 1 0 2", "keys", "put 5 50", "keys", "put 5 51", "keys"),
                         ["ok", "0", "none", "1", "50", "1"])
        self.assertEqual(said(desk, "put 6 0", "keys", "cut 5", "keys", "look 6", "keys"),
                         ["none", "2", "51", "1", "0", "1"])
        said(desk, *[f"put {key} 1" for key in range(100, 150)])
        self.assertEqual(desk.say("keys"), "51")

    def test_places(self):
        desk = Desk()
        said(desk, "table 1 0 2", "put 0 0", "put 1 1", "put 2 2", "put 3 3")
        self.assertEqual(said(desk, "places", "put 4 4", "places", "look 0", "places", "look 0", "places"),
                         ["4", "none", "4>8", "0", "4>8", "0", "8"])
        self.assertEqual(said(desk, "cut 0", "cut 1", "cut 2", "cut 3", "places", "cut 4", "places"),
                         ["0", "1", "2", "3", "8", "4", "8>4"])

    def test_touched(self):
        desk = Desk()
        rows = ("table 1 0 1", "touched", "look 0", "touched", "touched")
        self.assertEqual(said(desk, *rows), ["ok", "0", "none", "1", "1"])
        # As in the tests of tables: moved is place 0, its pairs go to 0 and 4; the key's places are 5, and 1.
        desk = Desk()
        said(desk, "table 1 0 1", "put 0 0", "put 1 0", "put 2 0", "put 3 0", "put 4 0")
        self.assertEqual(said(desk, "touched", "put 5 0", "touched"), ["1", "none", "5"])

    def test_step(self):
        desk = Desk()
        said(desk, "table 1 0 1", "put 1 10", "put 5 -50", "put 9 0", "put 2 2")
        self.assertEqual(said(desk, "step 0", "step 16384", "step 32768", "step 49152"),
                         ["16384", "32768 2:2", "49152 1:10 5:-50 9:0", "0"])
        self.assertEqual(said(desk, "step 1", "step 32767", "step 40000", "step 65535"),
                         ["16384", "32768 2:2", "49152 1:10 5:-50 9:0", "0"])

    def test_step_of_a_table_that_moves(self):
        desk = moving_desk()
        self.assertEqual(desk.say("places"), "4>8")
        self.assertEqual(said(desk, "step 0", "step 16384", "step 32768", "step 40960", "step 49152"),
                         ["16384 0:0 4:40", "32768 2:20", "49152 1:10 9:-90", "49152 1:10", "0 3:30"])

    def test_a_step_needs_not_be_the_next_of_a_walk(self):
        desk = moving_desk()
        self.assertEqual(said(desk, "step 49152", "step 0", "step 0"), ["0 3:30", "16384 0:0 4:40", "16384 0:0 4:40"])

    def test_the_mixer_and_the_pace_are_those_of_the_row(self):
        desk = Desk()
        said(desk, "table 3 7 1", "put 5 1")
        # Of 5 the mark is 3 * 5 + 7: its place is 2, with the stretch from 16384 on.
        self.assertEqual(said(desk, "step 16384", "step 32768"), ["32768 5:1", "49152"])
        for pace in PACES:
            desk = Desk()
            said(desk, f"table 1 0 {pace}", *[f"put {key} 0" for key in range(5)])
            looks = 0
            while desk.say("places") == "4>8" and looks < 9:
                desk.say("look 0")
                looks += 1
            self.assertEqual(looks, (4 + pace - 1) // pace)

    def test_answers_are_texts(self):
        desk = moving_desk()
        for row in ROWS_OF_A_TABLE + ("put 1 2", "put 1 3", "table 1 2 3"):
            self.assertIs(type(desk.say(row)), str)

    def test_a_new_table_in_the_place_of_another(self):
        desk = moving_desk()
        self.assertEqual(desk.say("table 1 0 1"), "ok")
        self.assertEqual(seen(desk), ["0", "4", "0", "16384", "32768", "49152", "0"])
        self.assertEqual(said(desk, "look 3", "put 3 1", "look 3"), ["none", "none", "1"])
        self.assertEqual(said(desk, "table 0 0 8", "look 3"), ["ok", "none"])

    def test_two_desks_side_by_side(self):
        one = Desk()
        other = Desk()
        said(one, "table 1 0 1", "put 1 10")
        with self.assertRaises(NoRow):
            other.say("look 1")
        said(other, "table 1 0 1", "put 1 11", "put 2 22")
        self.assertEqual(said(one, "look 1", "look 2", "keys"), ["10", "none", "1"])
        self.assertEqual(said(other, "look 1", "look 2", "keys"), ["11", "22", "2"])
        said(one, "table 1 0 1")
        self.assertEqual(said(other, "look 1", "look 2", "keys"), ["11", "22", "2"])

    def test_the_bounds_themselves(self):
        for factor in (0, 65535):
            for more in (0, 65535):
                for pace in PACES:
                    self.assertEqual(Desk().say(f"table {factor} {more} {pace}"), "ok")
        desk = Desk()
        desk.say("table 65535 65535 8")
        for key in (0, 1, 9, 10, GREATEST - 1, GREATEST):
            for worth in (0, -1, 1, -9, -10, GREATEST, -GREATEST, GREATEST - 1):
                desk.say(f"put {key} {worth}")
                self.assertEqual(desk.say(f"look {key}"), str(worth))
            self.assertEqual(desk.say(f"cut {key}"), str(worth))
        self.assertEqual(said(desk, "step 65535", "step 65534", "step 10", "step 9"), ["0", "0", "16384", "16384"])


class LongRowsTest(unittest.TestCase):
    def text(self, worth):
        return "none" if worth is None else str(worth)

    def follows(self, mixer, pace, deeds):
        desk = Desk()
        plain = PlainTable(mixer, pace)
        desk.say(f"table {mixer[0]} {mixer[1]} {pace}")
        for number, deed in enumerate(deeds):
            told = desk.say(" ".join([str(part) for part in deed]))
            self.assertEqual(told, self.text(plain.done(deed)))
            sizes = [str(size) for size in plain.sizes() if size is not None]
            expected = [str(plain.many()), ">".join(sizes), str(plain.touched())]
            self.assertEqual(said(desk, "keys", "places", "touched"), expected)
            cursor = number * 7919 % 65536
            following, pairs = plain_step(plain.state(), cursor)
            words = [str(following)] + [f"{key}:{worth}" for key, worth in pairs]
            self.assertEqual(desk.say(f"step {cursor}"), " ".join(words))

    def test_as_the_plain_table(self):
        near = list(range(90))
        far = [GREATEST - number * 65521 for number in range(90)]
        for pace in PACES:
            for number, mixer in enumerate(MIXERS):
                self.follows(mixer, pace, waves(pace + number, 250, near if pace % 2 else far, (4, 40, 9)))


class RefusalCase(unittest.TestCase):
    def refused(self, row):
        for desk in list(desks()):
            before = seen(desk)
            with self.assertRaises(NoRow):
                desk.say(row)
            self.assertEqual(seen(desk), before)
        desk = Desk()
        with self.assertRaises(NoRow):
            desk.say(row)
        with self.assertRaises(NoRow):
            desk.say("keys")
        self.assertEqual(said(desk, "table 1 0 1", "keys"), ["ok", "0"])


class RowsRefusedTest(RefusalCase):
    def test_without_a_table(self):
        desk = Desk()
        for row in ROWS_OF_A_TABLE:
            with self.assertRaises(NoRow):
                desk.say(row)
        desk.say("table 1 0 1")
        self.assertEqual(seen(desk), ["0", "4", "0", "16384", "32768", "49152", "0"])
        for row in ROWS_OF_A_TABLE:
            desk.say(row)

    def test_a_refused_table_is_none(self):
        desk = Desk()
        for row in ("table 1 0 9", "table 1 0", "table 1 0 1 1", "tables 1 0 1"):
            with self.assertRaises(NoRow):
                desk.say(row)
            with self.assertRaises(NoRow):
                desk.say("keys")

    def test_what_is_no_text(self):
        things = (None, True, False, 0, 1, -1, 10 ** 5000, b"keys", bytearray(b"keys"), object(), str, len)
        lists = ([], ["keys"], ["k", "e", "y", "s"], ("keys",), {"keys": 1}, {"keys"}, ("put", 1, 2), ["put", "1", "2"])
        for row in things + lists:
            self.refused(row)

    def test_words_too_many_or_too_few(self):
        for row in ("table", "table 1", "table 1 0", "table 1 0 1 1", "table 1 0 1 0 1"):
            self.refused(row)
        for row in ("put", "put 1", "put 1 2 3", "put 1 2 none"):
            self.refused(row)
        for word in ("look", "cut", "step"):
            for row in (word, word + " 1 2", word + " 1 1 1"):
                self.refused(row)
        for word in ("keys", "places", "touched"):
            for row in (word + " 0", word + " 1", word + " " + word, word + " 1 2"):
                self.refused(row)

    def test_other_words(self):
        for row in ("ok", "none", "get 1", "Put 1 2", "PUT 1 2", "puts 1 2", "pu 1 2", "Keys", "key", "many", "size",
                    "1", "1 put 2", "put1 2", "put-1 2", "lookup 1", "state", "table1 0 1", "touch", "place", "steps 0",
                    "cuts 1", "delete 1", "-", "~", "look=1", "keys;", "keys,", "say keys"):
            self.refused(row)

    def test_empty_rows_and_blanks_alone(self):
        for row in ("", " ", "  ", "\n", "\t", " \n"):
            self.refused(row)

    def test_blanks_ahead_behind_or_two(self):
        for row in ("table 1 0 1",) + ROWS_OF_A_TABLE:
            self.refused(" " + row)
            self.refused(row + " ")
            self.refused(" " + row + " ")
            parts = row.split(" ")
            for number in range(1, len(parts)):
                self.refused(" ".join(parts[:number]) + "  " + " ".join(parts[number:]))

    def test_line_feeds_tabs_and_their_like(self):
        for row in ("table 1 0 1",) + ROWS_OF_A_TABLE:
            for sign in "\n\t\r\v\f\0\u00a0\u2003\u3000\ufeff\u200b":
                self.refused(row + sign)
                self.refused(sign + row)
                if " " in row:
                    self.refused(row.replace(" ", sign))
                    self.refused(row.replace(" ", " " + sign))
                    self.refused(row.replace(" ", sign + " "))
        for row in ("keys\nkeys", "look 1\nlook 2", "put 1 2\n", "put 1\n2", "step 0\n0"):
            self.refused(row)


class NumbersRefusedTest(RefusalCase):
    """Every number of every row; the other words of the row are right."""

    FORMS = ("table {} 0 1", "table 1 {} 1", "table 1 0 {}", "put {} 1", "put 1 {}", "look {}", "cut {}", "step {}")

    def each_refuses(self, *words):
        for form in self.FORMS:
            for word in words:
                self.refused(form.replace("{}", word))

    def test_a_nought_ahead(self):
        self.each_refuses("00", "01", "007", "-01", "-00", "0000000000", "0000000001", "00000000001")

    def test_nought_below_nought(self):
        self.each_refuses("-0")

    def test_a_sign_ahead(self):
        self.each_refuses("+1", "+0", "--1", "+-1", "-+1", "1-", "-1-", "- 1", "~1", "!1")

    def test_no_figures(self):
        self.each_refuses("", "-", "+", "--", "a", "one", "none", "None", "True", "x1", "1x", "l", "O", "*")

    def test_other_ways_to_write_numbers(self):
        self.each_refuses("1.0", "1.", ".5", "1e3", "0x1", "0b1", "0o7", "1_0", "1,000", "1:2", "(1)", "'1'", "1/1")

    def test_figures_that_are_none_of_0_to_9(self):
        self.each_refuses("\u0661", "\u0967", "\uff11", "\u00b2", "\u2460", "\u0be7", "\U0001d7d9")
        self.each_refuses("1\u0661", "\u06611", "-\uff11")

    def test_a_minus_that_is_none(self):
        self.each_refuses("\u22121", "\u20131", "\uff0d1")

    def test_very_many_figures(self):
        for many in (11, 12, 20, 640, 4299, 4300, 4301, 5000, 100000):
            self.each_refuses("1" * many, "-" + "9" * many)
        self.each_refuses("0" * 5000, "-" + "0" * 5000, "0" * 5000 + "1", "1" + "0" * 5000)

    def refuses(self, form, *words):
        for word in words:
            self.refused(form.replace("{}", str(word)))

    def test_out_of_the_bounds_of_mixers(self):
        for form in self.FORMS[:2]:
            self.refuses(form, -1, -65535, 65536, 65537, 99999, 100000, GREATEST, GREATEST + 1)

    def test_out_of_the_bounds_of_paces(self):
        self.refuses(self.FORMS[2], 0, 9, 10, 16, -1, -8, 65535, GREATEST)

    def test_out_of_the_bounds_of_keys(self):
        for form in ("put {} 1", "look {}", "cut {}"):
            self.refuses(form, -1, -5, -GREATEST, GREATEST + 1, GREATEST + 2, 9999999999, 10 * GREATEST)

    def test_out_of_the_bounds_of_worths(self):
        self.refuses("put 1 {}", GREATEST + 1, -GREATEST - 1, 9999999999, -9999999999, 10 * GREATEST, -10 * GREATEST)

    def test_out_of_the_bounds_of_cursors(self):
        self.refuses("step {}", -1, -65535, 65536, 65537, 99999, 131072, GREATEST)


class WhatIsRefusedChangesNothingTest(unittest.TestCase):
    def test_a_table_goes_on_as_if_nothing_had_been_said(self):
        bad = ("table 1 0 9", "put 1", "put -1 4", "put 1 9999999999", "look 01", "cut 1 ", "step 65536", "keys 1")
        for pace in (1, 3):
            deeds = [" ".join([str(part) for part in deed]) for deed in waves(pace, 200, list(range(60)), (4, 30))]
            one = Desk()
            other = Desk()
            said(one, f"table 1 0 {pace}")
            said(other, f"table 1 0 {pace}")
            for number, deed in enumerate(deeds):
                with self.assertRaises(NoRow):
                    one.say(bad[number % len(bad)])
                self.assertEqual(one.say(deed), other.say(deed))
                self.assertEqual(said(one, "keys", "places", "touched"), said(other, "keys", "places", "touched"))
            self.assertEqual(seen(one), seen(other))

    def test_asking_is_no_deed(self):
        for desk in desks():
            self.assertEqual(seen(desk), seen(desk))

    def test_the_refusal_is_a_slow_error_and_a_value_error(self):
        for row in (None, "", "keys", "put 1 x"):
            for refusal in (NoRow, SlowError, ValueError):
                with self.assertRaises(refusal):
                    Desk().say(row)

    def test_a_list_told_to_a_desk_stays_as_it_was(self):
        row = ["put", 1, 2]
        with self.assertRaises(NoRow):
            moving_desk().say(row)
        self.assertEqual(row, ["put", 1, 2])


if __name__ == "__main__":
    unittest.main()
