"""Stories: what deeds and steps told, held against a plain table, and the stories that tables tell."""

from slowshift.bounds import done
from slowshift.kinds import is_point
from slowshift.tables import Table
from slowshift.walks import step


# Hears a story thing by thing, and is not to be asked further behind one that isn't right.
class Listener:
    def __init__(self):
        self.worths = {}
        self.cursor = 0
        # The keys that the walk on its way has yet to tell, if they stay.
        self.owed = {}

    def agrees(self, thing):
        if thing[0] == "step":
            return self.agrees_to_step(thing[1], thing[2], thing[3])
        return self.agrees_to_deed(thing)

    def agrees_to_deed(self, thing):
        key = thing[1]
        before = self.worths.get(key)
        if thing[0] == "put":
            self.worths[key] = thing[2]
        if thing[0] == "cut":
            self.worths.pop(key, None)
            # Put again it still wasn't there at all moments of the walk.
            self.owed.pop(key, None)
        return thing[-1] == before

    def agrees_to_step(self, cursor, following, pairs):
        if cursor != self.cursor or not may_follow(following, cursor) or not self.has_all(pairs):
            return False
        # Within a walk each next lies above its cursor, so a cursor of 0 is the walk's first.
        if cursor == 0:
            self.owed = dict(self.worths)
        for pair in pairs:
            self.owed.pop(pair[0], None)
        self.cursor = following
        return following != 0 or len(self.owed) == 0

    def has_all(self, pairs):
        unlike = len(set([pair[0] for pair in pairs])) == len(pairs)
        return unlike and all([self.worths.get(key) == worth for key, worth in pairs])


def may_follow(following, cursor):
    return following == 0 or (is_point(following) and following > cursor)


def first_wrong(story):
    listener = Listener()
    for number, thing in enumerate(story):
        if not listener.agrees(thing):
            return number
    return None


def story_of(mixer, pace, deeds):
    table = Table(mixer, pace, None)
    story = []
    cursor = 0
    for deed in deeds:
        if deed[0] == "step":
            told = step(table, cursor)
            story.append(("step", cursor, told[0], tuple(told[1])))
            cursor = told[0]
        else:
            story.append(deed + (done(table, deed),))
    return story
