"""Texts with small faults, and a second opinion on which texts are writings."""

import re

NAME = "[a-z]{1,6}"
KEY = "(?:c-)?(?:m-)?(?:s-)?(?:[a-z0-9]|enter|esc|tab|up|down)"
ROOM = f"({NAME})(?: < ({NAME}))?"
WAY = f"({NAME}) > ({NAME})"
BIND = f"({NAME}): ({KEY}(?: {KEY}){{0,2}}) = ({NAME}|-)"

SIGNS = " ,;:|<>=-naz0A~."


def spoilt_by_a_sign(text):
    """The text with one sign less, more, another, twice, or exchanged with its neighbour."""
    found = []
    for at in range(len(text) + 1):
        found.extend(text[:at] + sign + text[at:] for sign in SIGNS)
    for at in range(len(text)):
        found.append(text[:at] + text[at + 1:])
        found.append(text[:at + 1] + text[at:])
        found.extend(text[:at] + sign + text[at + 1:] for sign in SIGNS)
        found.append(text[:at] + text[at:at + 2][::-1] + text[at + 2:])
    return found


def spoilt_by_a_word(text):
    """The text with one word less, twice, another one, or exchanged with any other."""
    words = text.split(" ")
    found = []
    for at in range(len(words)):
        for put in ([], [words[at]] * 2, ["none"], ["hall"], ["x"], ["|"], ["-"], [""]):
            found.append(" ".join(words[:at] + put + words[at + 1:]))
        for other in range(at):
            changed = list(words)
            changed[at], changed[other] = words[other], words[at]
            found.append(" ".join(changed))
    return found


def spoilt(text):
    """The text with a sign, a word, a beginning or an end spoilt."""
    parts = [text[:at] for at in range(len(text))] + [text[at:] for at in range(len(text) + 1)]
    return spoilt_by_a_sign(text) + spoilt_by_a_word(text) + parts + [text + text, text + " " + text]


def all_match(form, texts):
    """The groups of each text, or None if one of them has not this form."""
    found = [re.fullmatch(form, text) for text in texts]
    return None if None in found else [match.groups() for match in found]


def is_house_text(text):
    """True if the text has the form of a house's, and what it tells can be a house."""
    halves = text.split(" | ")
    if len(halves) != 2:
        return False
    rooms = all_match(ROOM, halves[0].split(", "))
    ways = [] if halves[1] == "none" else all_match(WAY, halves[1].split(", "))
    if rooms is None or ways is None or len(rooms) > 6 or len(ways) > 4:
        return False
    names = [room for room, outer in rooms]
    deeds = [deed for deed, room in ways]
    return (
        len(set(names)) == len(names)
        and all(outer is None or outer in names[:at] for at, (room, outer) in enumerate(rooms))
        and all(one < other for one, other in zip(deeds, deeds[1:]))
        and all(room in names for deed, room in ways)
    )


def is_map_text(house, text):
    """True if the text has the form of a map's, and what it tells can be one of this house."""
    binds = [] if text == "none" else all_match(BIND, text.split(" ; "))
    if binds is None or len(binds) > 12:
        return False
    names = [room for room, outer in house[0]]
    places = [(room, row) for room, row, deed in binds]
    return len(set(places)) == len(places) and all(room in names for room, row in places)
