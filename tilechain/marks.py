"""Marks: how often they stand, and which of them hang together."""


def counts(tiles):
    often = {}
    for one, other in tiles:
        often[one] = often.get(one, 0) + 1
        often[other] = often.get(other, 0) + 1
    return sorted(often.items())


def odd_marks(tiles):
    return [mark for mark, often in counts(tiles) if often % 2 == 1]


def neighbours(tiles):
    beside = {}
    for one, other in tiles:
        beside.setdefault(one, []).append(other)
        beside.setdefault(other, []).append(one)
    return beside


def part_with(beside, start):
    # A list of marks still to be left, not a recursion: a chain of tiles may be longer than calls go deep.
    found = {start: True}
    waiting = [start]
    while len(waiting) > 0:
        mark = waiting.pop()
        for near in beside[mark]:
            if near not in found:
                found[near] = True
                waiting.append(near)
    return sorted(found)


def parts_of(tiles):
    beside = neighbours(tiles)
    parts = []
    placed = {}
    # Marks are taken rising, so each part comes up by its first mark, and the parts come in their order.
    for mark in sorted(beside):
        if mark not in placed:
            part = part_with(beside, mark)
            parts.append(part)
            for member in part:
                placed[member] = True
    return parts
