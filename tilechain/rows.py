"""Rows and rings of all tiles, the fewest rows, and the tiles that are lacking for a ring."""

from tilechain.marks import counts, odd_marks, parts_of
from tilechain.walks import free_steps, walk_from


def reason_against(tiles, odd_allowed):
    parts = parts_of(tiles)
    if len(parts) > 1:
        return ("parted", parts)
    odd = odd_marks(tiles)
    if len(odd) > odd_allowed:
        return ("odd", odd)
    return None


def row_ends(tiles):
    often = dict(counts(tiles))
    ends = []
    for part in parts_of(tiles):
        odd = [mark for mark in part if often[mark] % 2 == 1]
        # A part without odd marks wants a row too, one that ends where it begins.
        ends.extend(odd if len(odd) > 0 else [part[0], part[0]])
    return ends


def joints_between(ends):
    return [(ends[place], ends[place + 1]) for place in range(1, len(ends) - 1, 2)]


def split_at_joints(row, count):
    rows = [[]]
    for step in row:
        if step[0] < count:
            rows[-1].append(step)
        else:
            rows.append([])
    return rows


def fewest(tiles):
    if len(tiles) == 0:
        return []
    ends = row_ends(tiles)
    # Joints are further tiles, from each row's end to the next row's beginning: with them one row lays all.
    # An odd mark is on one joint at most, and a part without odd marks has to be laid between the joint that
    # leads to it and the one that leads away: so no joint follows another, and no row is without steps.
    joined = tiles + joints_between(ends)
    return split_at_joints(walk_from(joined, free_steps(joined), ends[0]), len(tiles))


def all_in_one(tiles):
    rows = fewest(tiles)
    return rows[0] if len(rows) > 0 else []


def one_row(tiles):
    reason = reason_against(tiles, 2)
    if reason is not None:
        return reason
    return ("row", all_in_one(tiles))


def one_ring(tiles):
    reason = reason_against(tiles, 0)
    if reason is not None:
        return reason
    return ("ring", all_in_one(tiles))


def wanting(tiles):
    if reason_against(tiles, 0) is None:
        return []
    ends = row_ends(tiles)
    return joints_between(ends) + [(ends[-1], ends[0])]
