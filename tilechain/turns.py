"""Turns: the ring that turns the fewest tiles, and the prices which show that none turns fewer."""

from tilechain.rows import one_ring
from tilechain.tiles import faces
from tilechain.walks import walk_from


def lower_prices(tiles, steps, prices, lowered_by):
    changed = False
    for step in steps:
        ends = faces(tiles, step)
        price = prices[ends[0]] + (-1 if step[1] else 1)
        if price < prices[ends[1]]:
            prices[ends[1]] = price
            lowered_by[ends[1]] = step
            changed = True
    return changed


def way_back(tiles, lowered_by, mark):
    way = [lowered_by[mark]]
    left = faces(tiles, way[-1])[0]
    while left != mark:
        way.append(lowered_by[left])
        left = faces(tiles, way[-1])[0]
    return way


def way_round(tiles, lowered_by):
    # Where steps lowered the prices of one another's marks all the way round, more of them are turned
    # than straight: else the last one to do so would have found a price that was low enough already.
    seen_from = {}
    for start in lowered_by:
        mark = start
        while mark in lowered_by and mark not in seen_from:
            seen_from[mark] = start
            mark = faces(tiles, lowered_by[mark])[0]
        if mark in seen_from and seen_from[mark] == start:
            return way_back(tiles, lowered_by, mark)
    return []


def prices_or_way(tiles, steps):
    # In a ring each mark is at the left of some step.
    prices = {}
    for step in steps:
        prices[faces(tiles, step)[0]] = 0
    lowered_by = {}
    while lower_prices(tiles, steps, prices, lowered_by):
        way = way_round(tiles, lowered_by)
        if len(way) > 0:
            return (prices, way)
    return (prices, [])


def turned_over(steps, way):
    numbers = {}
    for step in way:
        numbers[step[0]] = True
    return [(number, not turned if number in numbers else turned) for number, turned in steps]


def ring_of(tiles, steps):
    if len(steps) == 0:
        return []
    return walk_from(tiles, steps, faces(tiles, steps[0])[0])


def least_turned(tiles):
    told = one_ring(tiles)
    if told[0] != "ring":
        return told
    steps = told[1]
    found = prices_or_way(tiles, steps)
    while len(found[1]) > 0:
        steps = turned_over(steps, found[1])
        found = prices_or_way(tiles, steps)
    return ("ring", ring_of(tiles, steps), sorted(found[0].items()))
