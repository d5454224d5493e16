"""Walks: how steps are put one behind another, so that like marks meet, until all of them are laid."""

from tilechain.tiles import faces


def free_steps(tiles):
    steps = []
    for number in range(len(tiles)):
        # A walk takes the later choice first: so a tile with like ends is laid straight.
        steps.append((number, True))
        steps.append((number, False))
    return steps


def by_left_mark(tiles, steps):
    leaving = {}
    for step in steps:
        leaving.setdefault(faces(tiles, step)[0], []).append(step)
    return leaving


def take_step(leaving, mark, laid):
    choices = leaving.get(mark, [])
    while len(choices) > 0:
        step = choices.pop()
        # The tile may have been laid the other way round, from its other mark.
        if step[0] not in laid:
            laid[step[0]] = True
            return step
    return None


def walk_from(tiles, steps, start):
    leaving = by_left_mark(tiles, steps)
    laid = {}
    path = []
    row = []
    step = take_step(leaving, start, laid)
    # Where the path can't go on, its last step is put behind all that is still to come: so whatever
    # the path went past is taken up from there on the way back, ahead of that step.
    while step is not None or len(path) > 0:
        if step is not None:
            path.append(step)
            mark = faces(tiles, step)[1]
        else:
            row.append(path.pop())
            mark = faces(tiles, row[-1])[0]
        step = take_step(leaving, mark, laid)
    row.reverse()
    return row
