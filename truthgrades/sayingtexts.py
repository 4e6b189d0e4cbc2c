"""The texts of sayings, such as `and(p, not(q))`."""

from truthgrades.errors import NoSaying
from truthgrades.kinds import is_letter
from truthgrades.sayings import MOST_TUPLES, is_saying


def show_saying(S):
    """A saying's text."""
    if is_letter(S):
        return S
    if len(S) == 1:
        return S[0]
    return S[0] + "(" + ", ".join([show_saying(part) for part in S[1:]]) + ")"


def read_saying(text):
    """The saying whose text this is; NoSaying where it is none's, or no text."""
    if not isinstance(text, str):
        raise NoSaying("what is no text is no saying's text")
    told = read_from(text, 0, 0)
    if told[1] != len(text) or not is_saying(told[0]):
        raise NoSaying("this text is no saying's")
    return told[0]


def read_from(text, start, tuples):
    """What begins at a place of a text, within so many tuples, and the place behind it.

    It may still be no saying for its words or the number of its parts.
    """
    end = end_of_word(text, start)
    word = text[start:end]
    if is_letter(word):
        return (word, end)
    if tuples == MOST_TUPLES:
        # Refused here, and not only at the end, so that no text leads too deep.
        raise NoSaying("too many tuples within one another")
    parts = [word]
    ahead = "("
    while text.startswith(ahead, end):
        told = read_from(text, end + len(ahead), tuples + 1)
        parts.append(told[0])
        end = told[1]
        ahead = ", "
    if len(parts) > 1:
        end = end_of_bracket(text, end)
    return (tuple(parts), end)


def end_of_word(text, start):
    end = start
    while end < len(text) and is_letter(text[end]):
        end = end + 1
    return end


def end_of_bracket(text, place):
    if not text.startswith(")", place):
        raise NoSaying("a bracket isn't closed")
    return place + 1
