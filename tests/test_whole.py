"""What the document promises over the whole program: its points 2 and 3."""

import unittest

from slowshift.bounds import done, is_late, late_row
from slowshift.desk import Desk
from slowshift.errors import NoPlace, NoRow, NoSize, NoState, SlowError
from slowshift.shelves import Shelf
from slowshift.states import first_fault, is_sound, table_of
from slowshift.stories import first_wrong, story_of
from slowshift.tables import Table
from slowshift.walks import step

from tests.helpers import (
    GREATEST, MIXERS, ONE_PLACE, PLAIN, numbers, one_shelf, pairs_of, told_by_dict, two_shelves, waves, with_steps,
)

PACES = (1, 2, 3, 4, 5, 6, 7, 8)
REFUSALS = (NoPlace, NoSize, NoState, NoRow)
SPREAD = (40503, 12345)
NEAR = list(range(300))
FAR = [GREATEST - number * 65521 for number in range(300)]


class RefusalsTest(unittest.TestCase):
    def is_just(self, refusal, call, *handed):
        with self.assertRaises(refusal) as caught:
            call(*handed)
        self.assertIsInstance(caught.exception, SlowError)
        self.assertIsInstance(caught.exception, ValueError)
        for other in REFUSALS:
            self.assertEqual(isinstance(caught.exception, other), other is refusal)

    def test_each_is_of_its_own_class_alone(self):
        shelf = Shelf(4, PLAIN)
        for thing in (None, True, False, -1, 5, 8192, 10 ** 5000, "4", [], [4], (4,), {}, object(), "keys\n"):
            self.is_just(NoSize, Shelf, thing, PLAIN)
            self.is_just(NoPlace, shelf.row, thing)
            self.is_just(NoPlace, shelf.empty, thing)
            self.is_just(NoState, table_of, thing, PLAIN, 1)
            self.is_just(NoRow, Desk().say, thing)

    def test_where_two_refusals_could_be_due(self):
        # A row of numbers for no table, a state with many faults: still one refusal of one class.
        self.is_just(NoRow, Desk().say, "put -1 01")
        self.is_just(NoState, table_of, (((),) * 5, -1, [((1,),)]), PLAIN, 1)

    def test_what_is_refused_changes_nothing(self):
        shelf = Shelf(4, PLAIN)
        shelf.put(5, 50)
        for place in (4, -1, None, True, "1"):
            for call in (shelf.row, shelf.empty):
                with self.assertRaises(NoPlace):
                    call(place)
        self.assertEqual(([shelf.row(place) for place in range(4)], shelf.many()), ([[], [(5, 50)], [], []], 1))


class ToldListsTest(unittest.TestCase):
    """No two lists told are one; what is done with one, or on the table later, changes no other."""

    def all_told(self, table, shelf):
        told = [step(table, cursor)[1] for cursor in range(0, 65536, 8192) for turn in range(2)]
        told += [shelf.row(place) for place in range(4) for turn in range(2)]
        told += [Shelf(4, PLAIN).row(0), Shelf(4, PLAIN).empty(0), Shelf(4, PLAIN).empty(0)]
        told += [late_row(1), late_row(1), late_row(2), late_row(2)]
        told += [story_of(PLAIN, 1, []), story_of(PLAIN, 1, []), story_of(PLAIN, 1, late_row(1))]
        return told

    def test_no_two_are_one(self):
        shelf = Shelf(4, PLAIN)
        shelf.put(5, 50)
        for state in (None, one_shelf(8, PLAIN, range(20)), two_shelves((8, 4), 3, PLAIN, range(20))):
            table = Table(PLAIN, 1, state)
            told = self.all_told(table, shelf)
            kept = [list(one) for one in told]
            self.assertTrue(all(type(one) is list for one in told))
            self.assertEqual(len({id(one) for one in told}), len(told))
            for one, was in zip(told, kept):
                self.assertEqual(one, was)
                one.append("more")
            for key in range(40):
                table.put(key, -1)
            self.assertEqual([one[:-1] for one in told], kept)

    def test_states_told_stay_as_they_were_told(self):
        for pace in (1, 8):
            table = Table(SPREAD, pace, None)
            told = []
            for deed in waves(pace, 300, NEAR, (40, 9)):
                done(table, deed)
                told.append((table.state(), repr(table.state())))
            self.assertTrue(all(repr(state) == written for state, written in told))


class HandedInTest(unittest.TestCase):
    def test_nothing_handed_in_is_changed(self):
        mixer = (40503, 12345)
        state = two_shelves((16, 8), 3, mixer, range(30))
        deeds = with_steps(waves(1, 100, NEAR, (20,)), 1, 2)
        story = story_of(mixer, 1, deeds)
        handed = (mixer, state, deeds, story)
        written = repr(handed)
        first_fault(state, mixer)
        is_sound(state, mixer)
        first_wrong(story)
        first_wrong(story[::-1])
        for table in (table_of(state, mixer, 2), Table(mixer, 2, state)):
            for deed in deeds:
                if deed != ("step",):
                    done(table, deed)
        self.assertEqual(repr(handed), written)

    def test_what_becomes_of_a_list_behind_the_call_changes_nothing(self):
        deeds = with_steps(waves(1, 100, NEAR, (20,)), 1, 2)
        story = story_of(SPREAD, 1, deeds)
        kept = list(story)
        deeds.reverse()
        deeds.clear()
        self.assertEqual(story, kept)
        self.assertIsNone(first_wrong(story))
        story.clear()
        self.assertIsNone(first_wrong(kept))

    def test_asking_twice_tells_the_same(self):
        state = two_shelves((16, 8), 3, SPREAD, range(30))
        deeds = with_steps(waves(1, 100, NEAR, (20,)), 1, 2)
        for turn in range(3):
            self.assertEqual(story_of(SPREAD, 1, deeds), story_of(SPREAD, 1, list(deeds)))
            self.assertIs(is_sound(state, SPREAD), True)
            self.assertEqual(first_wrong([("look", 1, 1)]), 0)


class Watched:
    """A table whose deeds and steps are all held against the promise as they come."""

    def __init__(self, test, mixer, pace):
        self.test = test
        self.mixer = mixer
        self.pace = pace
        self.table = Table(mixer, pace, None)
        self.twin = Table(mixer, pace, None)
        self.worths = {}
        self.story = []
        self.cursor = 0
        self.stay, self.met, self.twice, self.shifted = {}, {}, False, False
        self.walks = 0

    def deed(self, deed):
        sizes = self.table.sizes()
        told = done(self.table, deed)
        self.test.assertEqual(told, told_by_dict(self.worths, deed))
        self.test.assertEqual(done(self.twin, deed), told)
        self.test.assertEqual(self.table.many(), len(self.worths))
        self.test.assertLessEqual(self.table.touched(), 3 * self.pace + 2)
        self.test.assertEqual(self.twin.touched(), self.table.touched())
        if self.pace >= 3:
            self.test.assertFalse(is_late(self.table))
        if deed[0] == "cut":
            self.stay.pop(deed[1], None)
        self.shifted = self.shifted or self.table.sizes() != sizes
        self.story.append(deed + (told,))

    def step(self):
        if self.cursor == 0:
            self.stay, self.met, self.twice, self.shifted = dict(self.worths), {}, False, False
        following, pairs = step(self.table, self.cursor)
        self.test.assertEqual(step(self.twin, self.cursor), (following, pairs))
        for key, worth in pairs:
            self.test.assertEqual(self.worths.get(key), worth)
            self.twice = self.twice or key in self.met
            self.met[key] = worth
        self.story.append(("step", self.cursor, following, tuple(pairs)))
        self.cursor = following
        if following == 0:
            self.walks += 1
            self.test.assertEqual([key for key in self.stay if key not in self.met], [])
            self.test.assertFalse(self.twice and not self.shifted)

    def look_through(self):
        state = self.table.state()
        self.test.assertTrue(self.twin.state() == state)
        self.test.assertIs(is_sound(state, self.mixer), True)
        self.test.assertEqual(sorted(pairs_of(state)), sorted(self.worths.items()))

    def new_twin(self):
        """From here on the twin is one made of the table's state."""
        self.twin = table_of(self.table.state(), self.mixer, self.pace)
        self.test.assertEqual(self.twin.touched(), 0)

    def end(self, things):
        self.look_through()
        self.test.assertIsNone(first_wrong(self.story))
        self.test.assertTrue(story_of(self.mixer, self.pace, things) == self.story)


class PromiseTest(unittest.TestCase):
    def watch(self, mixer, pace, things, seldom=1):
        watched = Watched(self, mixer, pace)
        for number, thing in enumerate(things):
            if thing == ("step",):
                watched.step()
            else:
                watched.deed(thing)
            if number % seldom == 0:
                watched.look_through()
            if number % 101 == 100:
                watched.new_twin()
        watched.end(things)
        return watched.walks

    def test_deeds_and_steps_of_all_kinds(self):
        for pace in PACES:
            for number, mixer in enumerate(MIXERS):
                deeds = waves(pace * 9 + number, 900, FAR if number % 2 else NEAR, (5, 60, 9, 33, 3))
                walks = self.watch(mixer, pace, with_steps(deeds, pace, 1 + number % 3), 4)
                self.assertGreater(walks, 5)

    def test_moment_by_moment(self):
        for pace in PACES:
            for mixer in (PLAIN, ONE_PLACE, SPREAD):
                self.watch(mixer, pace, with_steps(waves(pace, 250, NEAR, (18, 3, 9)), pace, 2))

    def test_three_thousand_things(self):
        keys = [number * 7919 % 1000003 for number in range(900)]
        things = [thing for key in keys for thing in (("put", key, -key), ("look", keys[key % 900]))]
        things += [thing for key in keys[:600] for thing in (("step",), ("cut", key))]
        for pace in (1, 3, 8):
            for mixer in (ONE_PLACE, SPREAD):
                self.watch(mixer, pace, things, 97)

    def test_walks_over_tables_that_grow_and_shrink_fast(self):
        drawn = numbers(5)
        grow = [("put", key, key % 5) for key in NEAR[:250]]
        shrink = [("cut", key) for key in NEAR[:248]]
        things = []
        for deed in grow + shrink + grow + shrink:
            things += [deed] + [("step",)] * (next(drawn) % 3)
        for pace in PACES:
            for mixer in (PLAIN, SPREAD):
                self.assertGreater(self.watch(mixer, pace, things, 41), 3)

    def test_late_tables_keep_the_rest_of_the_promise(self):
        for pace in (1, 2):
            for mixer in MIXERS:
                things = late_row(pace) + [("step",)] * 5
                table = Table(mixer, pace, None)
                for deed in late_row(pace):
                    done(table, deed)
                self.assertIs(is_late(table), True)
                self.watch(mixer, pace, things * 6)


class BeganOfAStateTest(unittest.TestCase):
    def test_never_late_at_a_pace_of_3_or_more_through_tables_made_of_states(self):
        for pace in PACES[2:]:
            table = Table(SPREAD, pace, None)
            for number, deed in enumerate(waves(pace, 2000, list(range(700)), (6, 300, 18, 70))):
                done(table, deed)
                self.assertFalse(is_late(table))
                if number % 50 == 0:
                    table = table_of(table.state(), SPREAD, pace)
                    self.assertFalse(is_late(table))

    def test_a_desk_is_a_table_told_by_texts(self):
        for pace in (1, 4):
            desk = Desk()
            table = Table(SPREAD, pace, None)
            desk.say(f"table {SPREAD[0]} {SPREAD[1]} {pace}")
            for deed in waves(pace, 400, NEAR, (9, 60)):
                told = done(table, deed)
                answer = desk.say(" ".join([str(part) for part in deed]))
                self.assertEqual(answer, "none" if told is None else str(told))
                self.assertEqual(desk.say("touched"), str(table.touched()))


if __name__ == "__main__":
    unittest.main()
