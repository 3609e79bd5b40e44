"""Number words in the texts of code and of papers."""

from hillrooms.scanner import DIGITS, LONGEST_NUMBER


def number_told(word):
    """The number that a word tells; None if it is no number word."""
    if not 1 <= len(word) <= LONGEST_NUMBER or not all([sign in DIGITS for sign in word]):
        return None
    if word[0] == "0" and len(word) > 1:
        return None
    return int(word)


def numbers_told(words):
    """The numbers that some words tell, None for each that is no number word."""
    return tuple([number_told(word) for word in words])
