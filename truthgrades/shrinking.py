"""A table shrunk: alike grades are put together."""

from truthgrades.alike import alike
from truthgrades.tables import remade


def shrunk(T):
    """The table whose grades are the parts of alike grades, in order."""
    parts = alike(T)
    news = {}
    for number, part in enumerate(parts):
        news.update([(old, number) for old in part])
    return remade(T, [part[0] for part in parts], news)
