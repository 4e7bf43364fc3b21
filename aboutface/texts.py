"""Texts of books, states and wishes."""

from aboutface.books import is_book, is_state
from aboutface.errors import BadText

MOST_DIGITS = 13


def is_number(word):
    """Tell whether the word is a number: decimal digits without leading zeros, not too many."""
    # Other scripts have digits, too, so isdigit alone is not enough.
    if not word.isascii() or not word.isdigit() or len(word) > MOST_DIGITS:
        return False
    return word == "0" or word[0] != "0"


def is_rung_word(word):
    """Tell whether the word is a number and a face."""
    return word[-1:] in ("+", "-") and is_number(word[:-1])


def is_wish_word(word):
    """Tell whether the word is an item of a WISH."""
    return word == "?" or is_number(word)


def wish_item(word):
    """Return the item of a WISH that the word stands for."""
    return None if word == "?" else int(word)


def book_text(book):
    """Return the text of a BOOK."""
    return " / ".join([" ".join([str(length) for length in table]) for table in book])


def state_text(state):
    """Return the text of a STATE."""
    standing, faces = state
    return " ".join([str(rung) + ("+" if face == 1 else "-") for rung, face in zip(standing, faces)])


def wish_text(wish):
    """Return the text of a WISH."""
    return " ".join(["?" if item is None else str(item) for item in wish])


def book_in(text):
    """Return the BOOK with this text."""
    rows = [row.split(" ") for row in text.split(" / ")]
    if not all([is_number(word) for row in rows for word in row]):
        raise BadText(text)
    book = tuple([tuple([int(word) for word in row]) for row in rows])
    if not is_book(book):
        raise BadText(text)
    return book


def state_in(book, text):
    """Return the STATE of the BOOK with this text."""
    words = text.split(" ")
    if not all([is_rung_word(word) for word in words]):
        raise BadText(text)
    rungs = tuple([int(word[:-1]) for word in words])
    faces = tuple([1 if word[-1] == "+" else -1 for word in words])
    if not is_state(book, (rungs, faces)):
        raise BadText(text)
    return rungs, faces


def wish_in(book, text):
    """Return the WISH of the BOOK with this text."""
    words = text.split(" ")
    if len(words) != len(book) or not all([is_wish_word(word) for word in words]):
        raise BadText(text)
    return tuple([wish_item(word) for word in words])
