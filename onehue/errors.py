"""The refusals: one class each, all straight under HueError."""


class HueError(ValueError):
    pass


class NoKind(HueError):
    pass


class NoSize(HueError):
    pass


class NoHues(HueError):
    pass


class NoDyeing(HueError):
    pass


class TooMuch(HueError):
    pass
