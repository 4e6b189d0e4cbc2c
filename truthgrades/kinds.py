"""The small kinds of which all others are made: whole numbers, letters, names.

Each function here tells True or False of things of any kind.
"""


def is_whole(thing):
    """Whether a thing is a whole number; a truth is none, though Python counts it as an int."""
    return isinstance(thing, int) and not isinstance(thing, bool)


def is_letter(thing):
    """Whether a thing is a text of one small letter."""
    return isinstance(thing, str) and len(thing) == 1 and has_small_letters_alone(thing)


def is_name(thing):
    """Whether a thing is a connective's name: two to eight small letters."""
    return isinstance(thing, str) and 2 <= len(thing) <= 8 and has_small_letters_alone(thing)


def has_small_letters_alone(text):
    # islower and isalpha would take the letters of other scripts, too.
    return all(["a" <= sign <= "z" for sign in text])
