"""What all tests share: asking with a look at what is handed in, strict comparing, plain gradings, many inputs."""

import itertools
import unittest

from truthgrades.errors import GradeError


class GradeCase(unittest.TestCase):
    def ask(self, function, *things):
        """The answer; fails where something that was handed in is changed behind the call."""
        before = [repr(thing) for thing in things]
        answer = function(*things)
        self.assertEqual([repr(thing) for thing in things], before)
        return answer

    def same(self, told, due):
        """Equal, and of the same kinds all through: True is not 1 here, a list no tuple."""
        self.assertEqual(repr(told), repr(due))

    def tells(self, due, function, *things):
        self.same(self.ask(function, *things), due)

    def refuses(self, error, function, *things):
        """Refused with this very class; tells what was raised."""
        before = [shown(thing) for thing in things]
        with self.assertRaises(ValueError) as caught:
            function(*things)
        self.assertIs(type(caught.exception), error)
        self.assertIsInstance(caught.exception, GradeError)
        self.assertEqual([shown(thing) for thing in things], before)
        return caught.exception

    def is_new(self, told, *things):
        """Nothing that holds something is told that was handed in."""
        handed = [id(part) for thing in things for part in holders(thing)]
        self.assertEqual([part for part in holders(told) if id(part) in handed], [])


def holders(thing):
    """All tuples, lists and dicts within a thing that hold something, itself among them."""
    if not isinstance(thing, (tuple, list, dict)) or not thing:
        return []
    parts = [part for pair in thing.items() for part in pair] if isinstance(thing, dict) else thing
    return [thing] + [inner for part in parts for inner in holders(part)]


class Other:
    """A thing of a quite other kind, which can't be compared, counted or hashed."""

    __hash__ = None

    def __eq__(self, other):
        raise RuntimeError("compared")

    def __len__(self):
        raise RuntimeError("counted")


# Things that are no table, half table, saying or text of one.
OTHER_KINDS = (
    None, True, False, 0, 1, -1, 10 ** 5000, 1.0, float("nan"), 1j, b"p", bytearray(b"p"), (), [], {}, set(),
    frozenset(), range(3), len, str, object(), Other(), [Other()], (Other(),), (Other(), Other(), Other()),
    ((), (), ()), [[], [], []], (None, None, None), {"p": 0}, ValueError("p"), iter("p"), memoryview(b"p"),
)


def shown(thing):
    """A thing for a test's label; some numbers have more figures than Python writes."""
    return "a very long number" if isinstance(thing, int) and abs(thing) > 10 ** 50 else repr(thing)


def nested(tuples, inner="p"):
    """A saying with so many tuples within one another around an inner one."""
    saying = inner
    for step in range(tuples):
        saying = ("not", saying)
    return saying


def joined(letters):
    """A saying of the letters with two parts in each tuple, each half as long."""
    if len(letters) == 1:
        return letters
    middle = len(letters) // 2
    return ("and", joined(letters[:middle]), joined(letters[middle:]))


def plain_cell(table, name, grades):
    """A connective's grade at some grades, straight from the table."""
    for one, places, cells in table[2]:
        if one == name and places == len(grades):
            return cells[sum(grade * table[0] ** power for power, grade in enumerate(reversed(grades)))]
    raise KeyError(name)


def plain_grade(table, saying, grading):
    if isinstance(saying, str):
        return grading[saying]
    return plain_cell(table, saying[0], [plain_grade(table, part, grading) for part in saying[1:]])


def built(many, is_wished, shapes, cell):
    """A table of many grades, its cells by a function of the connective's name and a tuple of grades."""
    connectives = []
    for name, places in shapes:
        at = itertools.product(range(many), repeat=places)
        connectives.append((name, places, tuple(cell(name, grades) for grades in at)))
    return (many, tuple(one for one in range(many) if is_wished(one)), tuple(connectives))


def shapes_of(table):
    return tuple((name, places) for name, places, cells in table[2])


def plain_letters(saying):
    if isinstance(saying, str):
        return {saying}
    return set().union(*[plain_letters(part) for part in saying[1:]])


def plain_gradings(many, letters):
    return [dict(zip(letters, grades)) for grades in itertools.product(range(many), repeat=len(letters))]


class Mixer:
    """Numbers, tables and sayings that look mixed but are the same at each run."""

    def __init__(self, seed):
        self.state = seed

    def number(self, many):
        """A number from 0 to many - 1."""
        self.state = (self.state * 6364136223846793005 + 1442695040888963407) % 2 ** 64
        return (self.state >> 33) % many

    def pick(self, things):
        return things[self.number(len(things))]

    def some(self, things):
        return tuple(thing for thing in things if self.number(2))

    def table(self, many, shapes=(("no", 0), ("not", 1), ("and", 2), ("then", 2)), none_in=0):
        """A table; with none_in = n about one cell of n is None, but for 0."""
        connectives = []
        for name, places in shapes:
            cells = [self.number(many) for place in range(many ** places)]
            if none_in:
                cells = [None if self.number(none_in) == 0 else cell for cell in cells]
            connectives.append((name, places, tuple(cells)))
        return (many, self.some(range(many)), tuple(connectives))

    def saying(self, table, letters, depth):
        """A saying of some of these letters, and names of the table."""
        shapes = [(name, places) for name, places, cells in table[2]]
        if depth == 0 or not shapes or self.number(5) == 0:
            constants = [(name,) for name, places in shapes if places == 0]
            return self.pick(list(letters) + constants)
        name, places = self.pick(shapes)
        return (name,) + tuple(self.saying(table, letters, depth - 1) for place in range(places))
