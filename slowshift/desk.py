"""The desk: rows of words told to a table, each answered by a text."""

from slowshift.bounds import done
from slowshift.errors import NoRow
from slowshift.kinds import is_key, is_mixer_part, is_pace, is_point, is_worth
from slowshift.tables import Table
from slowshift.walks import step

FIGURES = "0123456789"
# No number within the bounds has more; and Python itself refuses texts of very many figures.
MOST_FIGURES = 10


class Desk:
    def __init__(self):
        self.table = None

    def say(self, row):
        # All is checked ahead of the deed, so that what is refused changes nothing.
        if not isinstance(row, str):
            raise NoRow("a row is a text")
        words = row.split(" ")
        numbers = [number_of(word) for word in words[1:]]
        if not is_such_row(words[0], numbers):
            raise NoRow("there is no such row")
        if words[0] == "table":
            self.table = Table((numbers[0], numbers[1]), numbers[2], None)
            return "ok"
        if self.table is None:
            raise NoRow("there is no table yet")
        return answer_of(self.table, words[0], numbers)


# None of a word that writes no number, or one that is beyond all bounds.
def number_of(word):
    figures = word[1:] if word.startswith("-") else word
    if not are_figures(figures) or word == "-0":
        return None
    return int(word)


def are_figures(text):
    if not 1 <= len(text) <= MOST_FIGURES or not all([sign in FIGURES for sign in text]):
        return False
    return text == "0" or not text.startswith("0")


# A number that is None is of no kind that a row asks for, so none with such a one stands.
def is_such_row(word, numbers):
    if word == "table":
        return len(numbers) == 3 and all([is_mixer_part(part) for part in numbers[:2]]) and is_pace(numbers[2])
    if word == "put":
        return len(numbers) == 2 and is_key(numbers[0]) and is_worth(numbers[1])
    if word in ("look", "cut"):
        return len(numbers) == 1 and is_key(numbers[0])
    if word == "step":
        return len(numbers) == 1 and is_point(numbers[0])
    return word in ("keys", "places", "touched") and len(numbers) == 0


def answer_of(table, word, numbers):
    if word == "keys":
        return str(table.many())
    if word == "places":
        return text_of_sizes(table.sizes())
    if word == "touched":
        return str(table.touched())
    if word == "step":
        return text_of_step(step(table, numbers[0]))
    return text_of_worth(done(table, tuple([word] + numbers)))


def text_of_sizes(sizes):
    return ">".join([str(size) for size in sizes if size is not None])


def text_of_step(told):
    return " ".join([str(told[0])] + [f"{key}:{worth}" for key, worth in told[1]])


def text_of_worth(worth):
    return "none" if worth is None else str(worth)
