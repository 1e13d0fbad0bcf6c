"""Houses and maps read from their texts.

The parts are taken out of the text without any question; then the text is
refused unless they are a house or a map, and unless that is written just so.
"""

from keydeeds.errors import NoText
from keydeeds.things import are_binds, is_house, room_names
from keydeeds.writing import NO_DEED, NOTHING, written, written_house


def read_house(text):
    """The house whose text it is; NoText if there is none."""
    house = house_parts(text)
    if not is_house(house) or written_house(house) != text:
        raise NoText("the text is not the writing of a house")
    return house


def house_parts(text):
    """What would be the house if the text were one's writing."""
    rooms, bar, ways = text.partition(" | ")
    return (
        tuple(room_parts(part) for part in rooms.split(", ")),
        tuple(way_parts(part) for part in unjoined(", ", ways)),
    )


def room_parts(text):
    """What would be a room and its outer one."""
    room, sign, outer = text.partition(" < ")
    return (room, outer if sign else None)


def way_parts(text):
    """What would be a deed and the room into which it leads."""
    deed, sign, room = text.partition(" > ")
    return (deed, room)


def read(house, text):
    """The map of this house whose text it is; NoText if there is none."""
    binds = tuple(bind_parts(part) for part in unjoined(" ; ", text))
    # Not is_map: it would refuse all maps of a house with some rooms too many.
    if not are_binds(room_names(house[0]), binds) or written(binds) != text:
        raise NoText("the text is not the writing of a map of this house")
    return binds


def bind_parts(text):
    """What would be a bind."""
    place, equals, told = text.partition(" = ")
    room, colon, row = place.partition(": ")
    return (room, tuple(row.split(" ")), None if told == NO_DEED else told)


def unjoined(between, text):
    """The texts that were joined to this one; none from the word for nothing."""
    if text == NOTHING:
        return []
    return text.split(between)
