"""Lists of lines, read line by line."""

from buildhall.errors import BadLine


def read_all(lines, read):
    if not isinstance(lines, list):
        raise BadLine(0)
    return [read_at(line, place, read) for place, line in enumerate(lines)]


def read_at(line, place, read):
    # One that reads a line alone can't know where it stands among others.
    try:
        return read(line)
    except BadLine:
        raise BadLine(place) from None
