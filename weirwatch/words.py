"""Whole numbers and names, and numbers written plainly."""

LETTERS = "abcdefghijklmnopqrstuvwxyz"
FIGURES = "0123456789"
MOST_LETTERS = 8
MOST_FIGURES = 6


def is_whole(thing, low, high):
    """Whether the thing is a whole number from low to high, both counted."""
    # True and False are ints to Python, but no whole numbers here.
    if isinstance(thing, bool) or not isinstance(thing, int):
        return False
    return low <= thing <= high


def is_made_of(text, signs):
    return all([sign in signs for sign in text])


def is_name(thing):
    """Whether the thing is a text of one to eight small letters."""
    if not isinstance(thing, str):
        return False
    return 1 <= len(thing) <= MOST_LETTERS and is_made_of(thing, LETTERS)


def is_plain(text):
    if not 1 <= len(text) <= MOST_FIGURES or not is_made_of(text, FIGURES):
        return False
    return text == "0" or text[0] != "0"


def number_in(text, low, high):
    """The number from low to high that is written plainly in the text, or None."""
    if not isinstance(text, str) or not is_plain(text):
        return None
    number = int(text)
    return number if low <= number <= high else None
