"""Whole numbers, names, and the words of a line."""

MOST_TURN = 1000000000
MOST_NUMBER = 1000100000

LETTERS = "abcdefghijklmnopqrstuvwxyz"
FIGURES = "0123456789"
MOST_LETTERS = 12
MOST_FIGURES = 10


def is_whole(thing):
    # To Python, True and False are whole numbers too.
    return isinstance(thing, int) and not isinstance(thing, bool)


def is_among(thing, least, most):
    return is_whole(thing) and least <= thing <= most


def is_made_of(thing, signs, most):
    if not isinstance(thing, str) or not 1 <= len(thing) <= most:
        return False
    return all([sign in signs for sign in thing])


def is_name(thing):
    return is_made_of(thing, LETTERS, MOST_LETTERS)


def number_text(number):
    return str(number)


def number_of(word):
    if not is_made_of(word, FIGURES, MOST_FIGURES):
        return None
    if word[0] == "0" and len(word) > 1:
        return None
    return int(word)


def words_of(line):
    if not isinstance(line, str):
        return None
    # A split by the blank alone leaves an empty word wherever a blank stands at an
    # end or beside another one, and one of the empty text.
    words = line.split(" ")
    if "" in words:
        return None
    return words
