"""Sayings: a letter, or a tuple of a name and none to two sayings; and lines that say one."""

from truthgrades.kinds import is_letter, is_name

MOST_WORDS = 40
MOST_TUPLES = 20
MOST_PARTS = 2


def is_saying(thing):
    """Whether a thing of any kind is a saying.

    Of each part that waits it is kept in how many tuples it stands. The walk ends at the
    first word too many, so one tuple that stands in many places doesn't make it long.
    """
    waiting = [(thing, 0)]
    words = 0
    while len(waiting) > 0:
        entry = waiting.pop()
        part = entry[0]
        words = words + 1
        if words > MOST_WORDS:
            return False
        if not is_letter(part):
            if not has_name_and_parts(part) or entry[1] == MOST_TUPLES:
                return False
            waiting.extend([(inner, entry[1] + 1) for inner in part[1:]])
    return True


def has_name_and_parts(thing):
    """Whether a thing is a tuple of a name and none to two other things."""
    return isinstance(thing, tuple) and 1 <= len(thing) <= 1 + MOST_PARTS and is_name(thing[0])


def letters_of(S):
    """A list of a saying's letters, rising, each once."""
    return letters_of_all([S])


def letters_of_all(sayings):
    """A list of the letters that several sayings have, rising, each once."""
    letters = []
    for saying in sayings:
        letters.extend([part for part in written_parts(saying) if is_letter(part)])
    return sorted(set(letters))


def words_of(S):
    """How many letters and names a saying has, each as often as it stands there."""
    return len(written_parts(S))


def written_parts(S):
    """A list of the sayings within a saying, itself the first, from the left as they are written."""
    parts = []
    waiting = [S]
    while len(waiting) > 0:
        part = waiting.pop()
        parts.append(part)
        if not is_letter(part):
            # The last one comes out first, so the left part goes in last.
            waiting.extend(list(reversed(part[1:])))
    return parts


def said_by(lines):
    """How many letters and names the saying has that lines say, written out.

    It is never written out here: a few lines may say more than could be.
    """
    counts = []
    for line in lines:
        if is_letter(line):
            counts.append(1)
        else:
            counts.append(1 + sum([counts[number] for number in line[1:]]))
    return counts[-1]


def needed_lines(lines):
    """The numbers of the lines that the last one rests on, its own the first, each once.

    They stand from the left as what the lines say is written out.
    """
    needed = {}
    waiting = [len(lines) - 1]
    while len(waiting) > 0:
        number = waiting.pop()
        if number not in needed:
            needed[number] = True
            if not is_letter(lines[number]):
                waiting.extend(list(reversed(lines[number][1:])))
    return list(needed)
