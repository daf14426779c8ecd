"""Trees, dates and ways, as they are written, read again.

What begins with take_ reads on from where a Reader stands, as far as the form
lets it, and leaves it behind; it keeps lists of what waits instead of calling
itself, so that no text is too deep for it.
"""

from treewithin.dating import is_dates
from treewithin.errors import NoText
from treewithin.showing import DOES, POINT, STEP
from treewithin.trees import LETTERS, LONGEST_WORD
from treewithin.ways import FOUND, is_way

FIGURES = "0123456789"
MOST_FIGURES = 4
DEED_NAMES = ("found", "split", "doubled", "over")


class Reader:
    """A text that is read sign by sign, and the place of the next one."""

    def __init__(self, text):
        if not isinstance(text, str):
            raise NoText(0)
        self.text = text
        self.place = 0

    def stands_at(self, signs):
        """Whether the next sign is one of these."""
        return self.place < len(self.text) and self.text[self.place] in signs

    def take(self, signs):
        """The next sign; refused where it is none of these, or the text has ended."""
        if not self.stands_at(signs):
            raise NoText(self.place)
        self.place = self.place + 1
        return self.text[self.place - 1]


def take_many(reader, signs, most):
    """One or more of these signs, as many as there are, but no more than so many."""
    told = reader.take(signs)
    while len(told) < most and reader.stands_at(signs):
        told = told + reader.take(signs)
    return told


def take_number(reader, most):
    """A number of at most so many figures."""
    if reader.stands_at("0"):
        most = 1
    return int(take_many(reader, FIGURES, most))


def take_numbers(reader, sign):
    """The tuple of one or more numbers parted by a sign."""
    told = [take_number(reader, MOST_FIGURES)]
    while reader.stands_at(sign):
        reader.take(sign)
        told.append(take_number(reader, MOST_FIGURES))
    return tuple(told)


def take_deed(reader):
    """A deed, letter by letter."""
    deed = ""
    while deed not in DEED_NAMES:
        deed = deed + reader.take([name[len(deed)] for name in DEED_NAMES if name.startswith(deed)])
    return deed


def take_tree_front(reader):
    """(word, False) of a leaf; ((), True) where a pair's bracket has been opened."""
    if reader.stands_at("("):
        reader.take("(")
        return ((), True)
    return (take_many(reader, LETTERS, LONGEST_WORD), False)


def take_way_front(reader):
    """((path, deed), whether the bracket of its two has been opened)."""
    path = take_numbers(reader, STEP)
    reader.take(DOES)
    deed = take_deed(reader)
    if deed == FOUND:
        return ((path, deed), False)
    reader.take("(")
    return ((path, deed), True)


def take_behind(reader, waiting, part):
    """Reads what stands behind a whole part, up to the next one: the whole itself, None where a part has still to come.

    waiting holds a list for each bracket not closed yet: what stands ahead of
    it, and the one where this has been read.
    """
    while waiting and len(waiting[-1]) == 2:
        reader.take(")")
        opened = waiting.pop()
        part = opened[0] + (opened[1], part)
    if not waiting:
        return part
    reader.take(",")
    waiting[-1].append(part)
    return None


def take_nested(reader, take_front):
    """A tree or a way, of what reads the front of a part up to its bracket."""
    waiting = []
    whole = None
    while whole is None:
        front = take_front(reader)
        if front[1]:
            waiting.append([front[0]])
        else:
            whole = take_behind(reader, waiting, front[0])
    return whole


def read_all(text, take):
    """What take reads, where the text ends with it; of any thing as text."""
    reader = Reader(text)
    told = take(reader)
    if reader.place < len(text):
        raise NoText(reader.place)
    return told


def read_number(text, most):
    """The number of at most so many figures that is written; refused with NoText. Of any thing as text."""
    return read_all(text, lambda reader: take_number(reader, most))


def read_tree(text):
    """The tree that is written; refused with NoText. Of any thing as text."""
    return read_all(text, lambda reader: take_nested(reader, take_tree_front))


def read_dates(great, text):
    """The dates of the great tree that are written; refused with NoText. Of any thing as text."""
    dates = read_all(text, lambda reader: take_numbers(reader, POINT))
    if not is_dates(great, dates):
        raise NoText(len(text))
    return dates


def read_way(ground, small, text):
    """The way of the small tree that is written; refused with NoText. Of any thing as text."""
    way = read_all(text, lambda reader: take_nested(reader, take_way_front))
    if not is_way(ground, small, way):
        raise NoText(len(text))
    return way
