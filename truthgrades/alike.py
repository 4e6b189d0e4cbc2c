"""Grades that nothing parts, and the steps that part the others."""

from truthgrades.gradings import cells_by_name


def alike(T):
    """The parts of alike grades: rising tuples, in order of their first grades."""
    marks = first_places([one in T[1] for one in range(T[0])])
    # Each time that parts fall apart there are more of them, and there are no more than grades.
    for turn in range(T[0]):
        marks = parted_further(T, marks)
    return tuple([grades_with(marks, mark) for mark in sorted(set(marks))])


def first_places(things):
    """For each thing the place of the first one that is equal to it."""
    return [things.index(thing) for thing in things]


def parted_further(T, marks):
    """The marks of parts in which each step leads any two grades of one part to one part of the old ones.

    A grade's mark is the first grade of its part.
    """
    cells = cells_by_name(T)
    steps = steps_of(T)
    signs = []
    for one in range(T[0]):
        signs.append([marks[one]] + [marks[stepped(cells, T[0], step, one)] for step in steps])
    return first_places(signs)


def grades_with(marks, mark):
    return tuple([one for one in range(len(marks)) if marks[one] == mark])


def steps_of(T):
    """A list of all steps that a table has."""
    steps = []
    for name, places, cells in T[2]:
        if places == 1:
            steps.append((name, 0, None))
        if places == 2:
            steps.extend([(name, 0, other) for other in range(T[0])])
            steps.extend([(name, 1, other) for other in range(T[0])])
    return steps


def stepped(cells, many, step, x):
    """The grade to which one step leads a grade."""
    if step[2] is None:
        return cells[(step[0], 1)][x]
    if step[1] == 0:
        return cells[(step[0], 2)][x * many + step[2]]
    return cells[(step[0], 2)][step[2] * many + x]


def led(T, steps, x):
    """The grade to which steps lead a grade, one after the other."""
    cells = cells_by_name(T)
    reached = x
    for step in steps:
        reached = stepped(cells, T[0], step, reached)
    return reached


def parting(T, x, y):
    """Steps that part two grades, as few as there can be, or None."""
    cells = cells_by_name(T)
    ways = {(x, y): ()}
    pairs = [(x, y)]
    while len(pairs) > 0:
        parted = [pair for pair in pairs if (pair[0] in T[1]) != (pair[1] in T[1])]
        if len(parted) > 0:
            return ways[parted[0]]
        pairs = next_pairs(T, cells, ways, pairs)
    return None


def next_pairs(T, cells, ways, pairs):
    """The pairs that one step more leads to and that weren't met; the ways get the steps to them."""
    reached = []
    for pair in pairs:
        for step in steps_of(T):
            led_to = (stepped(cells, T[0], step, pair[0]), stepped(cells, T[0], step, pair[1]))
            if led_to not in ways:
                ways[led_to] = ways[pair] + (step,)
                reached.append(led_to)
    return reached
