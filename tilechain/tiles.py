"""Steps, rows and rings: how tiles are laid end to end."""

from tilechain.errors import NoMark, NoTile


def has_tile(tiles, number):
    return number >= 0 and number < len(tiles)


def faces(tiles, step):
    # The words leave the number out: it may have more figures than Python turns into a text.
    if not has_tile(tiles, step[0]):
        raise NoTile("the step has the number of no tile")
    tile = tiles[step[0]]
    if step[1]:
        return (tile[1], tile[0])
    return (tile[0], tile[1])


def flaw(tiles, row):
    laid = {}
    for place, step in enumerate(row):
        if not has_tile(tiles, step[0]):
            return ("none", place)
        if step[0] in laid:
            return ("twice", place)
        if place > 0 and faces(tiles, step)[0] != faces(tiles, row[place - 1])[1]:
            return ("apart", place)
        laid[step[0]] = True
    return None


def is_ring(tiles, row):
    if flaw(tiles, row) is not None:
        return False
    if len(row) == 0:
        return True
    return faces(tiles, row[-1])[1] == faces(tiles, row[0])[0]


def begun_at(tiles, ring, mark):
    for place, step in enumerate(ring):
        if faces(tiles, step)[0] == mark:
            return ring[place:] + ring[:place]
    raise NoMark("no step of the ring has the mark at the left")
