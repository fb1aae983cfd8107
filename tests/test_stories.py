import unittest

from slowshift.bounds import late_row
from slowshift.stories import first_wrong, story_of

from tests.helpers import (
    GREATEST, MIXERS, ONE_PLACE, PLAIN, PlainTable, numbers, plain_step, told_by_dict, waves, with_steps,
)

PACES = (1, 2, 3, 4, 5, 6, 7, 8)
KEYS = list(range(120))


def moments(story):
    """The plain table ahead of each thing of the story, and behind the last."""
    worths = {}
    told = [{}]
    for thing in story:
        if thing[0] != "step":
            told_by_dict(worths, thing)
        told.append(dict(worths))
    return told


def plain_first_wrong(story):
    """The document's words on stories once more: for each thing all that lies ahead of it is looked at anew."""
    tables = moments(story)
    for number, thing in enumerate(story):
        if thing[0] != "step":
            right = thing[-1] == tables[number].get(thing[1])
        else:
            right = is_right_step(story, number, tables)
        if not right:
            return number
    return None


def is_right_step(story, number, tables):
    name, cursor, following, pairs = story[number]
    ahead = [other for other in range(number) if story[other][0] == "step"]
    begins = not ahead or story[ahead[-1]][2] == 0
    keys = [pair[0] for pair in pairs]
    if cursor != (0 if begins else story[ahead[-1]][2]):
        return False
    if following != 0 and not cursor < following <= 65535:
        return False
    if any(keys.count(key) > 1 for key in keys):
        return False
    if any(key not in tables[number] or tables[number][key] != worth for key, worth in pairs):
        return False
    return following != 0 or walk_told_all(story, number, ahead, tables)


def walk_told_all(story, number, ahead, tables):
    first = number
    for other in reversed(ahead):
        if story[other][2] == 0:
            break
        first = other
    stayed = set(tables[first])
    for table in tables[first:number + 1]:
        stayed &= set(table)
    steps = [thing for thing in story[first:number + 1] if thing[0] == "step"]
    return stayed <= {key for thing in steps for key, worth in thing[3]}


def puts(*pairs):
    return [("put", key, worth, None) for key, worth in pairs]


class DeedsTest(unittest.TestCase):
    def wrong(self, number, story):
        self.assertEqual(first_wrong(story), number)
        self.assertEqual(plain_first_wrong(story), number)

    def test_no_things(self):
        self.assertIsNone(first_wrong([]))
        self.assertIsNone(first_wrong(story=[]))

    def test_a_right_story(self):
        self.wrong(None, [
            ("look", 3, None), ("cut", 3, None), ("put", 3, 7, None), ("look", 3, 7), ("put", 3, 8, 7),
            ("put", 4, 9, None), ("look", 3, 8), ("cut", 3, 8), ("look", 3, None), ("cut", 3, None),
            ("put", 3, 1, None), ("look", 4, 9), ("put", 4, 9, 9), ("cut", 4, 9),
        ])

    def test_a_wrong_told(self):
        start = [("put", 3, 7, None), ("put", 4, 8, None)]
        for told in (None, 8, 0, -7, 6):
            for thing in (("put", 3, 1, told), ("look", 3, told), ("cut", 3, told)):
                self.wrong(2, start + [thing])
        for told in (7, 8, 0, 5):
            for thing in (("put", 5, 1, told), ("look", 5, told), ("cut", 5, told)):
                self.wrong(2, start + [thing])
                self.wrong(0, [thing] + start)

    def test_what_a_deed_leaves_behind(self):
        start = [("put", 3, 7, None)]
        self.wrong(2, start + [("look", 3, 7), ("put", 3, 7, None)])
        self.wrong(2, start + [("cut", 3, 7), ("look", 3, 7)])
        self.wrong(2, start + [("cut", 3, 7), ("cut", 3, 7)])
        self.wrong(2, start + [("cut", 3, 7), ("put", 3, 7, 7)])
        self.wrong(2, start + [("put", 3, 8, 7), ("look", 3, 7)])
        self.wrong(2, start + [("put", 3, 8, 7), ("put", 3, 8, 7)])
        self.wrong(2, start + [("cut", 4, None), ("look", 3, None)])
        self.wrong(None, start + [("cut", 4, None), ("look", 3, 7)])

    def test_worth_nought(self):
        start = [("put", 0, 0, None)]
        for thing in (("put", 0, 1), ("look", 0), ("cut", 0)):
            self.wrong(None, start + [thing + (0,)])
            self.wrong(1, start + [thing + (None,)])
            self.wrong(1, start + [thing + (1,)])
            self.wrong(0, [thing + (0,)])

    def test_greatest_and_least(self):
        story = []
        for key in (0, GREATEST):
            for before, worth in ((None, -GREATEST), (-GREATEST, GREATEST), (GREATEST, 0)):
                story += [("put", key, worth, before), ("look", key, worth)]
            story += [("cut", key, 0)]
        self.wrong(None, story)
        self.wrong(len(story), story + [("look", GREATEST, 0)])

    def test_behind_the_first_wrong_thing_nothing_matters(self):
        wrong = [("put", 1, 2, None), ("look", 1, 3)]
        for end in ([], [("look", 1, 2)], [("look", 1, 3)], [("look", 9, 9)] * 3):
            self.wrong(1, wrong + end)
            self.wrong(1, wrong + end + [("step", 0, 0, ())])
            self.wrong(1, wrong + [("step", 5, 4, ((1, 3),))] + end)


class StepsTest(unittest.TestCase):
    def wrong(self, number, story):
        self.assertEqual(first_wrong(story), number)
        self.assertEqual(plain_first_wrong(story), number)

    def test_right_walks(self):
        start = puts((1, 10), (2, 0), (3, -5))
        whole = ((3, -5), (1, 10), (2, 0))
        self.wrong(None, start + [("step", 0, 0, whole)])
        self.wrong(None, start + [("step", 0, 0, whole)] * 3)
        self.wrong(None, start + [("step", 0, 5, whole[:1]), ("step", 5, 6, ()), ("step", 6, 0, whole[1:])])
        self.wrong(None, start + [("step", 0, 5, whole[:1]), ("step", 5, 65535, whole[1:]), ("step", 65535, 0, ())])
        self.wrong(None, start + [("step", 0, 5, ()), ("step", 5, 0, whole), ("step", 0, 9, ()), ("step", 9, 0, whole)])
        self.wrong(None, [("step", 0, 0, ())] * 2 + start)

    def test_a_walk_on_its_way_at_the_end(self):
        start = puts((1, 10), (2, 20))
        self.wrong(None, start + [("step", 0, 1, ())])
        self.wrong(None, start + [("step", 0, 65535, ((1, 10),))])
        self.wrong(None, start + [("step", 0, 9, ()), ("step", 9, 10, ()), ("look", 1, 10)])
        self.wrong(None, start + [("step", 0, 0, ((1, 10), (2, 20))), ("step", 0, 9, ())])

    def test_the_first_cursor(self):
        for cursor in (1, 5, 65535, -1):
            self.wrong(0, [("step", cursor, 0, ())])
            self.wrong(1, puts((1, 1)) + [("step", cursor, 65535, ())])

    def test_the_cursor_behind_a_next_of_0(self):
        for cursor in (1, 5, 65535, -1):
            self.wrong(1, [("step", 0, 0, ()), ("step", cursor, 0, ())])
            self.wrong(2, [("step", 0, 5, ()), ("step", 5, 0, ()), ("step", cursor, 0, ())])
            self.wrong(3, [("step", 0, 5, ()), ("step", 5, 0, ()), ("look", 1, None), ("step", cursor, 0, ())])

    def test_the_cursor_of_a_further_step(self):
        for cursor in (0, 4, 6, 65535, -5):
            self.wrong(1, [("step", 0, 5, ()), ("step", cursor, 0, ())])
            self.wrong(2, [("step", 0, 5, ()), ("look", 1, None), ("step", cursor, 0, ())])
            self.wrong(2, [("step", 0, 3, ()), ("step", 3, 5, ()), ("step", cursor, 0, ())])
        self.wrong(2, [("step", 0, 3, ()), ("step", 3, 5, ()), ("step", 3, 5, ())])

    def test_the_next(self):
        for following in (5, 4, 1, -1, -5, -65536):
            self.wrong(1, [("step", 0, 5, ()), ("step", 5, following, ())])
        for following in (0, 6, 100, 65535):
            self.wrong(None, [("step", 0, 5, ()), ("step", 5, following, ())])
        for following in (65536, 65537, 10 ** 9, -1):
            self.wrong(0, [("step", 0, following, ())])
            self.wrong(1, [("step", 0, 5, ()), ("step", 5, following, ())])
        for following in (65535, 65536, 1):
            self.wrong(1, [("step", 0, 65535, ()), ("step", 65535, following, ())])

    def test_a_key_twice_in_one_step(self):
        start = puts((1, 10), (2, 20))
        for pairs in (((1, 10), (1, 10)), ((1, 10), (2, 20), (1, 10)), ((2, 20), (1, 10), (1, 11))):
            for following in (0, 5):
                self.wrong(2, start + [("step", 0, following, pairs)])

    def test_a_key_told_in_two_steps_of_a_walk_is_no_fault(self):
        start = puts((1, 10), (2, 20))
        self.wrong(None, start + [("step", 0, 5, ((1, 10),)), ("step", 5, 0, ((2, 20), (1, 10)))])

    def test_a_key_that_is_not_there(self):
        start = puts((1, 10), (2, 20)) + [("cut", 2, 20)]
        for pair in ((2, 20), (3, 10), (0, 0), (9, -1)):
            for following in (0, 5):
                self.wrong(3, start + [("step", 0, following, ((1, 10), pair))])
                self.wrong(3, start + [("step", 0, following, (pair, (1, 10)))])
        self.wrong(0, [("step", 0, 0, ((1, 0),))])

    def test_another_worth(self):
        start = puts((1, 10), (2, 0))
        for pairs in (((1, 11), (2, 0)), ((1, 10), (2, 1)), ((2, 10), (1, 0)), ((1, -10), (2, 0)), ((1, 0), (2, 0))):
            for following in (0, 5):
                self.wrong(2, start + [("step", 0, following, pairs)])

    def test_the_worth_is_that_of_the_moment(self):
        start = puts((1, 10)) + [("step", 0, 5, ((1, 10),)), ("put", 1, 11, 10)]
        self.wrong(None, start + [("step", 5, 0, ((1, 11),))])
        self.wrong(3, start + [("step", 5, 0, ((1, 10),))])
        self.wrong(None, start + [("step", 5, 0, ())])

    def test_what_stands_behind_a_wrong_step_does_not_matter(self):
        for wrong in (("step", 1, 0, ()), ("step", 0, 65536, ()), ("step", 0, 0, ((1, 1),))):
            for end in ([], [("step", 0, 0, ())], [("step", 7, 5, ())], [("look", 3, 9)], [wrong]):
                self.wrong(0, [wrong] + end)
                self.wrong(1, [("look", 1, None), wrong] + end)


class WhatAWalkOwesTest(unittest.TestCase):
    START = puts((1, 10), (2, 20))

    def wrong(self, number, story):
        self.assertEqual(first_wrong(story), number)
        self.assertEqual(plain_first_wrong(story), number)

    def walk(self, between, pairs=((1, 10),)):
        """A walk of three steps that tells key 1 at its middle one, with these deeds ahead of that or behind."""
        for parted in range(len(between) + 1):
            story = self.START + [("step", 0, 5, ())] + between[:parted]
            story += [("step", 5, 9, pairs)] + between[parted:]
            yield story + [("step", 9, 0, ())]

    def test_a_key_that_stayed(self):
        self.wrong(2, self.START + [("step", 0, 0, ())])
        self.wrong(2, self.START + [("step", 0, 0, ((1, 10),))])
        self.wrong(2, self.START + [("step", 0, 0, ((2, 20),))])
        self.wrong(3, self.START + [("step", 0, 5, ((1, 10),)), ("step", 5, 0, ((1, 10),))])
        for story in self.walk([]):
            self.wrong(4, story)
        for story in self.walk([("look", 2, 20)]):
            self.wrong(5, story)
        for story in self.walk([("put", 2, 21, 20), ("put", 2, 20, 21)]):
            self.wrong(6, story)
        for story in self.walk([("cut", 9, None)]):
            self.wrong(5, story)

    def test_a_key_of_worth_0(self):
        self.wrong(1, puts((1, 0)) + [("step", 0, 0, ())])
        self.wrong(None, puts((1, 0)) + [("step", 0, 0, ((1, 0),))])

    def test_key_0(self):
        self.wrong(1, puts((0, 4)) + [("step", 0, 0, ())])
        self.wrong(None, puts((0, 4)) + [("step", 0, 0, ((0, 4),))])

    def test_cut_meanwhile(self):
        for story in self.walk([("cut", 2, 20)]):
            self.wrong(None, story)

    def test_cut_and_put_again(self):
        for story in self.walk([("cut", 2, 20), ("put", 2, 20, None)]):
            self.wrong(None, story)
        for story in self.walk([("cut", 2, 20), ("look", 2, None), ("put", 2, 5, None), ("look", 2, 5)]):
            self.wrong(None, story)

    def test_put_behind_the_first_step(self):
        for story in self.walk([("cut", 2, 20), ("put", 3, 30, None)]):
            self.wrong(None, story)
        for story in self.walk([("put", 3, 30, None)]):
            self.wrong(5, story)
        self.wrong(None, [("step", 0, 5, ())] + self.START + [("step", 5, 0, ())])

    def test_put_ahead_of_the_first_step(self):
        self.wrong(2, self.START + [("step", 0, 0, ())])
        story = [("step", 0, 5, ()), ("step", 5, 0, ())] + self.START
        self.wrong(None, story)
        self.wrong(5, story + [("step", 0, 5, ((2, 20),)), ("step", 5, 0, ())])
        self.wrong(None, story + [("step", 0, 5, ((2, 20),)), ("step", 5, 0, ((1, 10),))])

    def test_cut_ahead_of_the_first_step_and_put_again(self):
        story = self.START + [("cut", 2, 20), ("put", 2, 22, None)]
        self.wrong(4, story + [("step", 0, 0, ((1, 10),))])
        self.wrong(None, story + [("step", 0, 0, ((1, 10), (2, 22)))])

    def test_told_then_cut(self):
        self.wrong(None, self.START + [("step", 0, 5, ((1, 10), (2, 20))), ("cut", 1, 10), ("step", 5, 0, ())])

    def test_told_once_with_a_worth_that_then_changed(self):
        self.wrong(None, self.START + [("step", 0, 5, ((1, 10), (2, 20))), ("put", 1, 5, 10), ("step", 5, 0, ())])

    def test_each_walk_owes_anew(self):
        whole = ("step", 0, 0, ((1, 10), (2, 20)))
        self.wrong(3, self.START + [whole, ("step", 0, 0, ())])
        self.wrong(4, self.START + [whole, ("step", 0, 5, ((1, 10),)), ("step", 5, 0, ())])
        self.wrong(5, self.START + [whole, whole, whole, ("step", 0, 0, ((1, 10),))])
        # Cut and put again between two walks it was there at all moments of the second.
        again = [("cut", 2, 20), ("put", 2, 20, None)]
        self.wrong(5, self.START + [whole] + again + [("step", 0, 0, ((1, 10),))])
        # Cut in one walk it was owed none there, but it is owed in the next.
        first = [("step", 0, 5, ((1, 10),))] + again + [("step", 5, 0, ())]
        self.wrong(None, self.START + first)
        self.wrong(6, self.START + first + [("step", 0, 0, ((1, 10),))])
        self.wrong(None, self.START + first + [whole])

    def test_a_walk_on_its_way_owes_nothing_yet(self):
        self.wrong(None, self.START + [("step", 0, 5, ()), ("step", 5, 6, ()), ("step", 6, 65535, ())])


class AgainstThePlainWordsTest(unittest.TestCase):
    def test_all_short_stories(self):
        things = [("put", 0, 0, None), ("put", 0, 0, 0), ("put", 0, 1, None), ("put", 0, 1, 0), ("put", 1, 0, None)]
        things += [("look", 0, None), ("look", 0, 0), ("cut", 0, None), ("cut", 0, 0), ("cut", 1, 0)]
        for pairs in ((), ((0, 0),), ((1, 0),), ((0, 0), (1, 0)), ((0, 0), (0, 0))):
            things += [("step", 0, 0, pairs), ("step", 0, 7, pairs), ("step", 7, 0, pairs)]
        things += [("step", 7, 7, ()), ("step", 7, 8, ()), ("step", 8, 0, ())]
        stories = [[]]
        for length in range(4):
            longer = [story + [thing] for story in stories for thing in things]
            for story in longer:
                self.assertEqual(first_wrong(story), plain_first_wrong(story))
            stories = [story for story in longer if first_wrong(story) is None]
        self.assertGreater(len(stories), 300)

    def test_stories_of_tables_with_one_thing_changed(self):
        found = []
        for start in range(600):
            mixer = MIXERS[start % len(MIXERS)]
            deeds = with_steps(waves(start, 40, KEYS[:15], (2, 6, 9)), start, 2)
            story = story_of(mixer, start % 8 + 1, deeds)
            drawn = numbers(start)
            for turn in range(4):
                changed = self.changed(story, drawn)
                wrong = plain_first_wrong(changed)
                self.assertEqual(first_wrong(changed), wrong)
                found.append(wrong)
        self.assertIn(None, found)
        self.assertGreater(len([number for number in found if number is not None]), 1000)

    def changed(self, story, drawn):
        """The story with a thing left out, said twice, put elsewhere or changed."""
        number = next(drawn) % len(story)
        other = next(drawn) % len(story)
        choice = next(drawn) % 6
        if choice == 0:
            return story[:number] + story[number + 1:]
        if choice == 1:
            return story[:number] + story[number:number + 1] + story[number:]
        if choice == 2:
            left = story[:number] + story[number + 1:]
            return left[:other] + [story[number]] + left[other:]
        steps = [place for place, thing in enumerate(story) if thing[0] == "step" and (thing[3] or choice < 5)]
        if choice > 3 and steps:
            number = steps[number % len(steps)]
        return story[:number] + [self.other(story[number], drawn)] + story[number + 1:]

    def other(self, thing, drawn):
        if thing[0] != "step":
            part = 1 + next(drawn) % (len(thing) - 1)
            value = (None, 0, 1, next(drawn) % 15)[next(drawn) % 4] if part == len(thing) - 1 else next(drawn) % 4
            return thing[:part] + (value,) + thing[part + 1:]
        name, cursor, following, pairs = thing
        choice = next(drawn) % 6
        if choice == 0:
            return (name, (0, 16384, cursor + 1)[next(drawn) % 3], following, pairs)
        if choice == 1:
            return (name, cursor, (0, cursor, cursor + 1, 65536)[next(drawn) % 4], pairs)
        if choice == 2 or not pairs:
            return (name, cursor, following, pairs + ((next(drawn) % 15, next(drawn) % 7 - 3),))
        number = next(drawn) % len(pairs)
        if choice == 3:
            return (name, cursor, following, pairs[:number] + pairs[number + 1:])
        if choice == 4:
            return (name, cursor, following, pairs + pairs[number:number + 1])
        key, worth = pairs[number]
        return (name, cursor, following, pairs[:number] + ((key, worth + 1),) + pairs[number + 1:])


class WhatIsHandedInTest(unittest.TestCase):
    def test_the_story_stays_as_it_was(self):
        right = puts((1, 10), (2, 20)) + [("step", 0, 5, ((1, 10),)), ("cut", 2, 20), ("step", 5, 0, ())]
        for end in ([], [("look", 1, 4)], [("step", 0, 0, ())], [("step", 1, 0, ()), ("cut", 1, 3)]):
            story = right + end
            kept = list(story)
            written = repr(story)
            first_wrong(story)
            self.assertEqual(repr(story), written)
            self.assertTrue(all(one is other for one, other in zip(story, kept, strict=True)))

    def test_nothing_is_kept_from_story_to_story(self):
        story = puts((1, 10)) + [("step", 0, 5, ())]
        for turn in range(3):
            self.assertIsNone(first_wrong(story))
        self.assertIsNone(first_wrong([("look", 1, None), ("step", 0, 0, ())]))
        story.append(("step", 5, 0, ()))
        self.assertEqual(first_wrong(story), 2)

    def test_the_deeds_stay_as_they_were(self):
        deeds = with_steps(waves(1, 100, KEYS, (30,)), 1, 2)
        kept = list(deeds)
        written = repr(deeds)
        story_of(PLAIN, 1, deeds)
        self.assertEqual(repr(deeds), written)
        self.assertTrue(all(one is other for one, other in zip(deeds, kept, strict=True)))

    def test_the_story_told_is_new_at_each_call(self):
        deeds = with_steps(waves(1, 100, KEYS, (30,)), 1, 2)
        one = story_of(PLAIN, 1, deeds)
        other = story_of(PLAIN, 1, deeds)
        kept = list(one)
        self.assertIsNot(one, other)
        self.assertIsNot(one, deeds)
        one.reverse()
        one.append(("look", 1, None))
        self.assertEqual(other, kept)
        other.clear()
        self.assertEqual(story_of(PLAIN, 1, deeds), kept)
        deeds.clear()
        self.assertEqual(story_of(PLAIN, 1, deeds), [])
        empty = story_of(PLAIN, 1, [])
        self.assertIsNot(story_of(PLAIN, 1, []), empty)

    def test_what_becomes_of_the_deeds_changes_no_story(self):
        deeds = [("put", 1, 2), ("step",), ("look", 1)]
        story = story_of(PLAIN, 1, deeds)
        deeds.clear()
        self.assertEqual(story, [("put", 1, 2, None), ("step", 0, 16384, ()), ("look", 1, 2)])


class StoryOfTest(unittest.TestCase):
    def test_no_deeds(self):
        for pace in PACES:
            self.assertEqual(story_of(PLAIN, pace, []), [])

    def test_deeds(self):
        deeds = [("look", 1), ("put", 1, 0), ("look", 1), ("put", 1, -4), ("cut", 2), ("cut", 1), ("cut", 1)]
        told = (None, None, 0, 0, None, -4, None)
        expected = [deed + (worth,) for deed, worth in zip(deeds, told)]
        self.assertEqual(story_of(mixer=PLAIN, pace=1, deeds=deeds), expected)

    def test_steps_go_as_one_walk_behind_the_other(self):
        deeds = [("put", 1, 10), ("put", 6, 0)] + [("step",)] * 6
        self.assertEqual(story_of(PLAIN, 1, deeds), [
            ("put", 1, 10, None), ("put", 6, 0, None),
            ("step", 0, 16384, ()), ("step", 16384, 32768, ((6, 0),)), ("step", 32768, 49152, ((1, 10),)),
            ("step", 49152, 0, ()), ("step", 0, 16384, ()), ("step", 16384, 32768, ((6, 0),)),
        ])

    def test_steps_between_deeds(self):
        deeds = [("step",), ("put", 2, 5), ("step",), ("cut", 2), ("step",), ("put", 3, 4), ("step",), ("step",)]
        self.assertEqual(story_of(PLAIN, 1, deeds), [
            ("step", 0, 16384, ()), ("put", 2, 5, None), ("step", 16384, 32768, ((2, 5),)), ("cut", 2, 5),
            ("step", 32768, 49152, ()), ("put", 3, 4, None), ("step", 49152, 0, ((3, 4),)), ("step", 0, 16384, ()),
        ])

    def test_while_the_table_moves(self):
        deeds = [("put", key, key) for key in range(5)] + [("step",), ("look", 0), ("step",)]
        self.assertEqual(story_of(PLAIN, 1, deeds)[5:], [
            ("step", 0, 16384, ((0, 0), (4, 4))), ("look", 0, 0), ("step", 16384, 32768, ((2, 2),)),
        ])
        # All keys have one place, 2 on the elder shelf and 6 on the newer; at a pace of 4 or more the move has ended.
        deeds = [("put", key, key) for key in range(5)] + [("put", 9, 9), ("step",), ("step",)]
        elder = ((0, 0), (1, 1), (2, 2), (3, 3), (4, 4))
        for pace in PACES:
            self.assertEqual(story_of(ONE_PLACE, pace, deeds)[5:], [
                ("put", 9, 9, None), ("step", 0, 8192 if pace > 3 else 16384, ()),
                ("step", 8192, 16384, ()) if pace > 3 else ("step", 16384, 32768, elder + ((9, 9),)),
            ])

    def test_kinds_told(self):
        deeds = [("step",)] + with_steps(waves(1, 200, KEYS, (30,)), 1, 2)
        story = story_of(PLAIN, 2, deeds)
        self.assertIs(type(story), list)
        self.assertEqual(len(story), len(deeds))
        lengths = {"put": 4, "look": 3, "cut": 3, "step": 4}
        for thing, deed in zip(story, deeds):
            self.assertIs(type(thing), tuple)
            self.assertEqual(len(thing), lengths[thing[0]])
            self.assertEqual(thing[:len(deed)], deed)
            if thing[0] == "step":
                self.assertIs(type(thing[3]), tuple)
                self.assertTrue(all(type(pair) is tuple for pair in thing[3]))

    def plain_story(self, mixer, pace, deeds):
        table = PlainTable(mixer, pace)
        cursor = 0
        for deed in deeds:
            if deed == ("step",):
                following, pairs = plain_step(table.state(), cursor)
                yield ("step", cursor, following, tuple(pairs))
                cursor = following
            else:
                yield deed + (table.done(deed),)

    def test_as_the_plain_table_and_the_plain_steps(self):
        for pace in PACES:
            for number, mixer in enumerate(MIXERS):
                deeds = with_steps(waves(pace + number, 400, KEYS, (4, 40, 9)), pace, 1 + number)
                self.assertTrue(story_of(mixer, pace, deeds) == list(self.plain_story(mixer, pace, deeds)))


class StoriesAreRightTest(unittest.TestCase):
    def is_right(self, mixer, pace, deeds):
        story = story_of(mixer, pace, deeds)
        self.assertIsNone(first_wrong(story))
        return story

    def ended_walks(self, story):
        return len([thing for thing in story if thing[0] == "step" and thing[2] == 0])

    def test_deeds_and_steps_in_any_order(self):
        for pace in PACES:
            for number, mixer in enumerate(MIXERS):
                for often in (1, 2, 5):
                    deeds = with_steps(waves(pace + number, 1200, KEYS, (4, 100, 20, 60)), number, often)
                    story = self.is_right(mixer, pace, deeds)
                    self.assertGreater(self.ended_walks(story), 3)
                    self.assertIsNone(plain_first_wrong(story[:150]))

    def test_each_beginning(self):
        for pace in PACES:
            for number, mixer in enumerate(MIXERS):
                deeds = with_steps(waves(pace + number, 200, KEYS, (12, 40)), number, 2)
                story = story_of(mixer, pace, deeds)
                for end in range(len(story) + 1):
                    self.assertIsNone(first_wrong(story[:end]))
                    self.assertTrue(end % 29 or story_of(mixer, pace, deeds[:end]) == story[:end])

    def test_growing_and_shrinking_between_the_steps(self):
        keys = [number * 7919 % 1000003 for number in range(500)]
        grow = [("put", key, key) for key in keys]
        shrink = [("cut", key) for key in keys]
        for pace in PACES:
            for mixer in (PLAIN, ONE_PLACE, (40503, 12345)):
                for steps in (1, 2):
                    story = self.is_right(mixer, pace, self.each_with_steps(grow + shrink, steps))
                    self.assertGreater(self.ended_walks(story), 1)

    def each_with_steps(self, deeds, many):
        return [thing for deed in deeds for thing in [deed] + [("step",)] * many]

    def test_steps_alone(self):
        story = self.is_right(PLAIN, 1, [("step",)] * 3000)
        self.assertEqual(self.ended_walks(story), 750)

    def test_three_thousand_things(self):
        deeds = [("put", key, -key) for key in range(1000)] + [("step",)] * 1100 + [("cut", key) for key in range(900)]
        for mixer in (ONE_PLACE, (40503, 12345)):
            self.assertEqual(len(self.is_right(mixer, 1, deeds)), 3000)

    def test_tables_that_come_to_be_late(self):
        for pace in (1, 2):
            late = late_row(pace)
            for mixer in MIXERS:
                for parted in range(len(late) + 1):
                    deeds = late[:parted] + [("step",)] * 3 + late[parted:] + [("step",), ("look", 0)] * 40
                    self.is_right(mixer, pace, deeds)

    def test_a_right_story_is_not_right_without_one_of_its_pairs(self):
        # So that right is no empty word of long stories: what stays is missed where no step tells it.
        deeds = [("put", key, key) for key in range(60)] + [("step",), ("put", 70, 1), ("cut", 70)] * 64
        for mixer in MIXERS:
            story = self.is_right(mixer, 3, deeds)
            last = [number for number, thing in enumerate(story) if thing[0] == "step" and thing[2] == 0][0]
            self.assertEqual(first_wrong([self.without(thing, 5) for thing in story]), last)
            self.assertIsNone(first_wrong([self.without(thing, 70) for thing in story]))

    def without(self, thing, key):
        if thing[0] != "step":
            return thing
        return thing[:3] + (tuple(pair for pair in thing[3] if pair[0] != key),)


if __name__ == "__main__":
    unittest.main()
