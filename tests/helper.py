"""What all tests share: asking with a look at what is handed in, and strict comparing."""

import unittest

from truthgrades.errors import GradeError


class GradeCase(unittest.TestCase):
    def ask(self, function, *things):
        """The answer; fails where something that was handed in is changed behind the call."""
        before = [repr(thing) for thing in things]
        answer = function(*things)
        self.assertEqual([repr(thing) for thing in things], before)
        return answer

    def same(self, told, due):
        """Equal, and of the same kinds all through: True is not 1 here, a list no tuple."""
        self.assertEqual(repr(told), repr(due))

    def tells(self, due, function, *things):
        self.same(self.ask(function, *things), due)

    def refuses(self, error, function, *things):
        """Refused with this very class; tells what was raised."""
        before = [repr(thing) for thing in things]
        with self.assertRaises(ValueError) as caught:
            function(*things)
        self.assertIs(type(caught.exception), error)
        self.assertIsInstance(caught.exception, GradeError)
        self.assertEqual([repr(thing) for thing in things], before)
        return caught.exception


class Other:
    """A thing of a quite other kind, which can't be compared, counted or hashed."""

    __hash__ = None

    def __eq__(self, other):
        raise RuntimeError("compared")

    def __len__(self):
        raise RuntimeError("counted")


# Things that are no table, half table, saying or text of one.
OTHER_KINDS = (
    None, True, False, 0, 1, -1, 10 ** 5000, 1.0, float("nan"), 1j, b"p", bytearray(b"p"), (), [], {}, set(),
    frozenset(), range(3), len, str, object(), Other(), [Other()], (Other(),), (Other(), Other(), Other()),
    ((), (), ()), [[], [], []], (None, None, None), {"p": 0}, ValueError("p"), iter("p"), memoryview(b"p"),
)


def shown(thing):
    """A thing for a test's label; some numbers have more figures than Python writes."""
    return "a very long number" if isinstance(thing, int) and abs(thing) > 10 ** 50 else repr(thing)
