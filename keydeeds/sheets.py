"""Keys that are free, and sheets of what holds in a room."""

from keydeeds.holding import rows
from keydeeds.things import FIGURES, LETTERS

GAP = "  "


def free(house, binds, room):
    """The letters and figures with which no row of the room begins, rising."""
    begun = [row[:1] for row, deed in rows(house, binds, room)]
    return tuple(sign for sign in FIGURES + LETTERS if (sign,) not in begun)


def sheet(house, binds, room, width):
    """The rows of the room with their deeds, in columns that fit into the width."""
    entries = entries_of(rows(house, binds, room))
    if not entries:
        return ()
    fitting = (width + len(GAP)) // (len(entries[0]) + len(GAP))
    columns = max(1, fitting)
    high = (len(entries) + columns - 1) // columns
    return tuple(GAP.join(entries[at::high]).rstrip() for at in range(high))


def entries_of(told):
    """The texts of the rows with their deeds, all of the same length."""
    heads = filled([" ".join(keys) for keys, deed in told])
    return filled([head + GAP + deed for head, (keys, deed) in zip(heads, told)])


def filled(texts):
    """The texts filled up with blanks to the longest one."""
    longest = max([len(text) for text in texts], default=0)
    return [text.ljust(longest) for text in texts]
