"""Integers as words of lines."""


def written(word):
    """The integer that is written so, decimal and without leading zeros, or None if none is."""
    digits = word.removeprefix("-")
    if not digits.isdecimal() or str(int(word)) != word:
        return None
    return int(word)
