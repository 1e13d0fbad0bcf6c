"""Rows of keys for deeds, so that they need the fewest presses."""

from keydeeds.errors import NoRoom


def coded(uses, keys):
    """Each deed with a row of the keys, none beginning another; NoRoom if there are none."""
    choices = []
    for counts in splits(len(uses)):
        chosen = rows_of(keys, counts)
        if len(chosen) == len(uses):
            choices.append(given(uses, chosen))
    if not choices:
        raise NoRoom("there are not so many rows of these keys")
    return min(choices, key=lambda some: presses(uses, some))


def splits(many):
    """All counts of rows of one, two and three keys that are so many together."""
    found = []
    for ones in range(many + 1):
        for twos in range(many - ones + 1):
            found.append((ones, twos, many - ones - twos))
    return found


def rows_of(keys, counts):
    """So many rows of each length, the shortest first, or fewer if there are no more."""
    found = []
    begun = [()]
    for many in counts:
        longer = [row + (key,) for row in begun for key in keys]
        found.extend(longer[:many])
        # What is no row itself may begin longer ones.
        begun = longer[many:]
    return found


def given(uses, chosen):
    """Each deed with one of the rows, the shortest for those that are used most."""
    most_first = sorted(uses, key=lambda use: -use[1])
    taken = {deed: row for (deed, many), row in zip(most_first, chosen)}
    return tuple((deed, taken[deed]) for deed, many in uses)


def presses(uses, some):
    """How many keys are pressed if each deed is used as often as it is told."""
    lengths = {deed: len(row) for deed, row in some}
    return sum(many * lengths[deed] for deed, many in uses)
