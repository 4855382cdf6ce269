"""Tests of single values; each takes a value of any kind and never fails."""

LETTERS = "abcdefghijklmnopqrstuvwxyz"


def is_number(value, low, high):
    """Whether a value is an integer from low to high."""
    # Python counts True and False as integers, the document does not.
    return isinstance(value, int) and not isinstance(value, bool) and low <= value <= high


def are_numbers(value, low, high):
    """Whether a value is a tuple of integers from low to high."""
    return isinstance(value, tuple) and all([is_number(number, low, high) for number in value])


def is_name(value):
    """Whether a value is a string of 1 to 8 letters from a to z."""
    if not isinstance(value, str) or not 1 <= len(value) <= 8:
        return False
    return all([letter in LETTERS for letter in value])


def is_one_of(value, names):
    """Whether a value is one of some strings."""
    # What is no string is not compared: it may have no hash, or an equality of its own.
    return isinstance(value, str) and value in names


def is_chain(value, people):
    """Whether a value is a tuple of 1 to 3 names of these people."""
    if not isinstance(value, tuple) or not 1 <= len(value) <= 3:
        return False
    return all([is_one_of(name, people) for name in value])
