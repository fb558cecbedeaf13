"""The two sides of a row: lines and wishes over the numbers, told of those ahead or of those behind."""


def line_ahead(line):
    """A line over the numbers, over those ahead and behind, told of those ahead."""
    return line + [0] * (len(line) - 1)


def line_behind(line):
    """A line over the numbers, over those ahead and behind, told of those behind."""
    return line[:1] + [0] * (len(line) - 1) + line[1:]


def wishes_ahead(wishes):
    """Wishes over the numbers, told of those ahead."""
    return [(word, line_ahead(line)) for word, line in wishes]
