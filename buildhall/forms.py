"""Forms of tuples and of lines, and lists of lines that are read one by one.

A form is a tuple: a word, then the sort of each part behind it. Sorts are "name", "turn",
"number", and "left" for a number from 1 on.
"""

from buildhall.errors import BadLine
from buildhall.words import MOST_NUMBER, MOST_TURN, is_among, is_name, number_of, number_text, words_of


def is_part(thing, sort):
    if sort == "name":
        return is_name(thing)
    least = 1 if sort == "left" else 0
    most = MOST_TURN if sort == "turn" else MOST_NUMBER
    return is_among(thing, least, most)


def are_parts(things, sorts, check):
    return len(things) == len(sorts) and all([check(thing, sort) for thing, sort in zip(things, sorts)])


def is_formed(thing, forms, check):
    if not isinstance(thing, tuple) or not thing:
        return False
    return any([form[0] == thing[0] and are_parts(thing[1:], form[1:], check) for form in forms])


def parts_line(parts):
    return " ".join([part if isinstance(part, str) else number_text(part) for part in parts])


def parts_by(words, forms):
    """The parts that some words write by one of the forms; None where they write none."""
    for form in forms:
        if words[:1] == [form[0]] and len(words) == len(form):
            parts = [word if sort == "name" else number_of(word) for word, sort in zip(words[1:], form[1:])]
            return (form[0],) + tuple(parts) if are_parts(parts, form[1:], is_part) else None
    return None


def parts_of(line, forms):
    words = words_of(line)
    parts = None if words is None else parts_by(words, forms)
    if parts is None:
        raise BadLine(0)
    return parts


def read_all(lines, read):
    if not isinstance(lines, list):
        raise BadLine(0)
    return [read_at(line, place, read) for place, line in enumerate(lines)]


def read_at(line, place, read):
    # One that reads a line alone can't know where it stands among others.
    try:
        return read(line)
    except BadLine:
        raise BadLine(place) from None
