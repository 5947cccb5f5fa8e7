"""Entries of a book, and their lines."""

from buildhall.forms import is_formed, is_part, parts_line, parts_of

FORMS = (
    ("turn", "turn"),
    ("lease", "number", "number", "name", "number"),
    ("renew", "number", "number"),
    ("done", "number"),
    ("fail", "number", "name"),
    ("out", "number"),
    ("ready", "number"),
    ("rest", "number", "number"),
    ("break", "number"),
    ("cut", "number", "number"),
)


def is_entry(thing):
    return is_formed(thing, FORMS, is_part)


def entry_line(entry):
    return parts_line(entry)


def entry_of(line):
    return parts_of(line, FORMS)
