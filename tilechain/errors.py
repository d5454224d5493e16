"""The refusals of the program."""


class TileError(ValueError):
    pass


class NoTile(TileError):
    pass


class NoMark(TileError):
    pass
